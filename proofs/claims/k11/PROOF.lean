import PyProof.Rows.All
import Wide.All
import OpenK.AllK
import Wide.FinOn
import Lean
import PyProof.EqAt
import PyProof.EqKinds
import PyProof.TupleCall
import PySem.Challenge.RW_coinrows_k11_a_board_turned
set_option Elab.async false
set_option linter.all false
set_option maxRecDepth 100000
namespace L2
open PySem PySem.Spec PyProof.Rows
abbrev Key := Sum Int Str
def keyIs : Key → Value → Bool
  | .inl k, v => Value.isInt k v
  | .inr x, v => Value.isStrOf x v
def keyH (w : World) : Key → Int
  | .inl k => hashInt k
  | .inr x => hashStr w x
theorem keyIs_shape : ∀ {k : Key} {v : Value}, keyIs k v = true → (∃ i t, k = Sum.inl i ∧ v = Value.int i t) ∨ (∃ x t, k = Sum.inr x ∧ v = Value.str x t)
  | .inl i, v, h => by
    obtain ⟨t, e⟩ := Value.isInt_shape (k := i) (v := v) h
    exact .inl ⟨i, t, rfl, e⟩
  | .inr x, v, h => by
    obtain ⟨t, e⟩ := Value.isStrOf_shape (x := x) (v := v) h
    exact .inr ⟨x, t, rfl, e⟩
theorem keyIs_int (i : Int) (t : Tok) : keyIs (.inl i) (.int i t) = true := by simp [keyIs, Value.isInt]
theorem keyIs_str (x : Str) (t : Tok) : keyIs (.inr x) (.str x t) = true := by simp [keyIs, Value.isStrOf]
theorem key_ll (a b : Int) : decide ((Sum.inl a : Key) = Sum.inl b) = (a == b) := by
  by_cases e : a = b
  · subst e; simp
  · have h : ¬ (Sum.inl a : Key) = Sum.inl b := fun q => e (Sum.inl.inj q)
    rw [decide_eq_false h]
    exact (beq_eq_false_iff_ne.mpr e).symm
theorem key_rr (a b : Str) : decide ((Sum.inr a : Key) = Sum.inr b) = decide (a = b) := by
  by_cases e : a = b
  · subst e; simp
  · have h : ¬ (Sum.inr a : Key) = Sum.inr b := fun q => e (Sum.inr.inj q)
    rw [decide_eq_false h, decide_eq_false e]
theorem key_lr (a : Int) (b : Str) : decide ((Sum.inl a : Key) = Sum.inr b) = false := decide_eq_false (fun q => nomatch q)
theorem key_rl (a : Str) (b : Int) : decide ((Sum.inr a : Key) = Sum.inl b) = false := decide_eq_false (fun q => nomatch q)
def mixKind (prog : Program) (w : World) : PySem.KeyKind prog w Key where
  is := keyIs
  hash := keyH w
  inj := fun v a b ha hb => by
    rcases keyIs_shape ha with ⟨i, t, rfl, rfl⟩ | ⟨x, t, rfl, rfl⟩
    · rcases keyIs_shape hb with ⟨j, u, rfl, e⟩ | ⟨y, u, rfl, e⟩
      · injection e with e1 _; rw [e1]
      · exact nomatch e
    · rcases keyIs_shape hb with ⟨j, u, rfl, e⟩ | ⟨y, u, rfl, e⟩
      · exact nomatch e
      · injection e with e1 _; rw [e1]
  byValue := fun k v h => by
    rcases keyIs_shape h with ⟨i, t, rfl, rfl⟩ | ⟨x, t, rfl, rfl⟩ <;> rfl
  pyHash := fun hv h => by
    rcases keyIs_shape hv with ⟨i, t, rfl, rfl⟩ | ⟨x, t, rfl, rfl⟩
    · exact wpAny_pyHash_int h
    · exact wpAny_pyHash_str h
  eqBool := fun hu hv h => by
    rcases keyIs_shape hu with ⟨i, t, rfl, rfl⟩ | ⟨x, t, rfl, rfl⟩
    · rcases keyIs_shape hv with ⟨j, u, rfl, rfl⟩ | ⟨y, u, rfl, rfl⟩
      · rw [key_ll] at h; exact wpAny_eqBool_int h
      · rw [key_lr] at h; exact SeqAt.EqAt.int_str i t y u _ _ _ _ h
    · rcases keyIs_shape hv with ⟨j, u, rfl, rfl⟩ | ⟨y, u, rfl, rfl⟩
      · rw [key_rl] at h; exact SeqAt.EqAt.str_int x t j u _ _ _ _ h
      · rw [key_rr] at h; exact wpAny_eqBool_str h
  «strs» := fun k x t v h => by
    rcases keyIs_shape h with ⟨i, u, rfl, e⟩ | ⟨y, u, rfl, e⟩
    · exact nomatch e
    · injection e with e1 _
      subst e1
      cases v <;> rfl
theorem mixKind_int (prog : Program) (w : World) (i : Int) (t : Tok) : (mixKind prog w).is (.inl i) (.int i t) = true := keyIs_int i t
theorem mixKind_str (prog : Program) (w : World) (x : Str) (t : Tok) : (mixKind prog w).is (.inr x) (.str x t) = true := keyIs_str x t
end L2
namespace L2
open PySem PySem.Spec PyProof.Rows
inductive V where
  | non | bl (b : Bool) | int (i : Int) | str (x : Str) | byt (b : Array UInt8) | flt (b : UInt64) | ref (a : Addr) | ty (n : String)
  deriving DecidableEq
def RelV : V → Value → Prop
  | .non, u => u = Value.none
  | .bl b, u => u = Value.bool b
  | .int i, u => ∃ t, u = Value.int i t
  | .str x, u => ∃ t, u = Value.str x t
  | .byt b, u => ∃ t, u = Value.bytes b t
  | .flt b, u => ∃ t, u = Value.float b t
  | .ref a, u => u = Value.ref a
  | .ty n, u => u = Value.type n
abbrev Vals : List V → List Value → Prop := Paired RelV
theorem Vals.length {xs : List V} {us : List Value} (r : Vals xs us) : xs.length = us.length := Paired.length r
theorem Vals.get : ∀ {xs : List V} {us : List Value} {i : Nat} {x : V}, Vals xs us → xs[i]? = some x → ∃ u, us[i]? = some u ∧ RelV x u
  | _, _, _, _, .nil, e => by simp at e
  | _, _, 0, _, .cons r _, e => by simp at e; subst e; exact ⟨_, rfl, r⟩
  | _, _, i + 1, x, .cons _ t, e => by
    obtain ⟨u, h1, h2⟩ := Vals.get (i := i) (x := x) t (by simpa using e)
    exact ⟨u, by simpa using h1, h2⟩
theorem Vals.set {x : V} {u : Value} (r : RelV x u) : ∀ {xs : List V} {us : List Value} (i : Nat), Vals xs us → Vals (xs.set i x) (us.set i u)
  | _, _, _, .nil => .nil
  | _, _, 0, .cons _ t => .cons r t
  | _, _, i + 1, .cons q t => .cons q (Vals.set r i t)
theorem Vals.append : ∀ {xs ys : List V} {us ws : List Value}, Vals xs us → Vals ys ws → Vals (xs ++ ys) (us ++ ws)
  | _, _, _, _, .nil, s => s
  | _, _, _, _, .cons r t, s => .cons r (Vals.append t s)
theorem Vals.take : ∀ {xs : List V} {us : List Value} (n : Nat), Vals xs us → Vals (xs.take n) (us.take n)
  | _, _, 0, _ => .nil
  | _, _, _ + 1, .nil => .nil
  | _, _, n + 1, .cons r t => .cons r (Vals.take n t)
theorem Vals.drop : ∀ {xs : List V} {us : List Value} (n : Nat), Vals xs us → Vals (xs.drop n) (us.drop n)
  | _, _, 0, r => r
  | _, _, _ + 1, .nil => .nil
  | _, _, n + 1, .cons _ t => Vals.drop n t
theorem Vals.none_of : ∀ {xs : List V} {us : List Value} {i : Nat}, Vals xs us → xs[i]? = none → us[i]? = none := fun {xs us i} r e => by
  have h1 := r.length
  have h2 : xs.length ≤ i := List.getElem?_eq_none_iff.mp e
  exact List.getElem?_eq_none_iff.mpr (by omega)
def RelO : Option V → Option Value → Prop
  | some v, some u => RelV v u
  | none, none => True
  | _, _ => False
def KV {κ : Type} : List (κ × V) → List (κ × Value) → Prop := Paired fun (p : κ × V) (q : κ × Value) => p.1 = q.1 ∧ RelV p.2 q.2
def kV : Key → V
  | .inl i => .int i
  | .inr x => .str x
inductive HO where
    | lst (xs : List V)
    | tup (xs : List V)
    | dK (kvs : List (Key × V)) | dT (kvs : List (List Key × V))
    | set (S : Int → Bool) (n : Nat)
    | ins (C dx : Addr) (fs : List (Str × V))
    | own (x : Addr)
    | xd (fs : List (Str × V))
    | met (f x : Addr)
    | rng (lo hi : Int)
    | frz (o : Obj) (u : HO)
    | tbl (ps : Array Value)
    | ext (φ : Heap → Prop)
abbrev Hp := Addr → Option HO
def upd (H : Hp) (a : Addr) (o : HO) : Hp := fun b => if b = a then some o else H b
theorem upd_same {H : Hp} {a : Addr} {o : HO} : upd H a o a = some o := by unfold upd; rw [if_pos rfl]
theorem upd_ne {H : Hp} {a b : Addr} {o : HO} (h : b ≠ a) : upd H a o b = H b := by unfold upd; rw [if_neg h]
theorem upd_upd {H : Hp} {a : Addr} {o u : HO} : upd (upd H a o) a u = upd H a u := by
  funext b; unfold upd; split <;> rfl
theorem ne_of {H : Hp} {a b : Addr} {o u : HO} (h : H a = some o) (h' : H b = some u) (d : o ≠ u) : a ≠ b := by
  intro e; subst e; rw [h] at h'; exact d (Option.some.inj h')
theorem ne_of_none {H : Hp} {a b : Addr} {o : HO} (h : H a = some o) (h' : H b = none) : a ≠ b := by
  intro e; subst e; rw [h] at h'; cases h'
section
variable (P : Program) (w : World)
def ObjOk (H : Hp) (h : Heap) (a : Addr) : HO → Prop
  | .lst xs => xs.length ≤ sizeLine ∧ ∃ (its : List Value) (n : Nat), Vals xs its ∧ h.get? a = some { cls := .type "list", data := .seq its.toArray n }
  | .tup xs => xs.length ≤ sizeLine ∧ ∃ its : List Value, Vals xs its ∧ IsTup h a its.toArray
  | .dK kvs => kvs.length ≤ sizeLine ∧ (a == sysModules) = false ∧ ∃ vs, KV kvs vs ∧ h.DictOf (mixKind P w) a vs
  | .dT kvs => kvs.length ≤ sizeLine ∧ (a == sysModules) = false ∧ ∃ xs : List (List Key × Addr × Value),
      Paired (fun (p : List Key × V) (q : List Key × Addr × Value) => p.1 = q.1 ∧ H q.2.1 = some (.tup (p.1.map kV)) ∧ RelV p.2 q.2.2) kvs xs ∧
      ∃ o es ep, h.get? a = some o ∧ o.ExactDict ∧ o.data = .dict es ep ∧ es.toList = xs.map (entryOfKey (tupleKind (mixKind P w))) ∧ (xs.map (·.1)).Nodup
  | .set S n => h.SetOf (intKind P w) a S n
  | .ins C dx fs => H dx = some (.own a) ∧ fs.length ≤ 1000 ∧ dx ≠ a ∧ h.get? a = some (PySem.W.instObj C dx) ∧
      ∃ mA, h.Ns1 dx mA ∧ (∀ f, RelO (fs.lookup f) (mA f)) ∧ PySem.Within mA (fs.map (·.1))
  | .own _ => ∃ o, h.get? a = some o
  | .xd fs => ∃ mA, h.Ns1 a mA ∧ ∀ f, RelO (fs.lookup f) (mA f)
  | .rng lo hi => ∃ t u v, h.get? a = some { cls := .type "range", data := .fields #[.int lo t, .int hi u, .int 1 v] }
  | .frz o u => h.get? a = some o ∧ ObjOk H h a u
  | .tbl ps => h.get? a = some { cls := .none, data := .fields ps }
  | .met f x => h.get? a = some (PySem.W.methodObj (.ref f) (.ref x))
  | .ext φ => φ h ∧ (∃ o, h.get? a = some o) ∧ ∀ h1 h2 : Heap, φ h1 → (∀ o, h1.get? a = some o → h2.get? a = some o) → φ h2
def HOk (H : Hp) (h : Heap) : Prop := ∀ a o, H a = some o → ObjOk P w H h a o
end
section
variable {P : Program} {w : World} {H H' : Hp} {h h' : Heap} {a : Addr} {o : HO}
theorem ObjOk.lt (x : ObjOk P w H h a o) : a < h.objs.size := by
  cases o with
  | lst xs => obtain ⟨_, _, _, _, e⟩ := x; exact Heap.lt_size e
  | tup xs => obtain ⟨_, _, _, p⟩ := x; exact p.lt
  | dK kvs => obtain ⟨_, _, _, _, o, _, _, e, _⟩ := x; exact Heap.lt_size e
  | dT kvs => obtain ⟨_, _, _, _, o, _, _, e, _⟩ := x; exact Heap.lt_size e
  | set S n => obtain ⟨o, _, _, _, e, _⟩ := x; exact Heap.lt_size e
  | ins C dx fs => obtain ⟨_, _, _, e, _⟩ := x; exact Heap.lt_size e
  | own y => obtain ⟨_, e⟩ := x; exact Heap.lt_size e
  | xd fs => obtain ⟨_, ⟨_, _, _, e, _⟩, _⟩ := x; exact Heap.lt_size e
  | rng lo hi => obtain ⟨_, _, _, e⟩ := x; exact Heap.lt_size e
  | frz ob u => obtain ⟨e, _⟩ := x; exact Heap.lt_size e
  | tbl ps => exact Heap.lt_size (show h.get? a = some _ from x)
  | met f y => exact Heap.lt_size (show h.get? a = some _ from x)
  | ext φ => obtain ⟨_, ⟨_, e⟩, _⟩ := x; exact Heap.lt_size e
theorem Paired.mapP {α β : Type} {F G : α → β → Prop} : ∀ {l₁ : List α} {l₂ : List β}, Paired F l₁ l₂ → (∀ a b, F a b → G a b) → Paired G l₁ l₂
  | _, _, .nil, _ => .nil
  | _, _, .cons r t, f => .cons (f _ _ r) (Paired.mapP t f)
theorem ObjOk.stay (x : ObjOk P w H h a o) (k : ∀ b u, (b = a ∨ H b = some (.own a)) → h.get? b = some u → h'.get? b = some u)
    (ho : ∀ b, H b = some (.own a) → H' b = some (.own a)) (ht : ∀ b xs, H b = some (.tup xs) → H' b = some (.tup xs)) : ObjOk P w H' h' a o := by
  induction o with
  | lst xs => obtain ⟨z, its, n, r, e⟩ := x; exact ⟨z, its, n, r, k _ _ (.inl rfl) e⟩
  | tup xs => obtain ⟨z, its, r, ob, e, c⟩ := x; exact ⟨z, its, r, ob, k _ _ (.inl rfl) e, c⟩
  | dK kvs => obtain ⟨z, y, vs, r, ob, es, ep, e, c⟩ := x; exact ⟨z, y, vs, r, ob, es, ep, k _ _ (.inl rfl) e, c⟩
  | dT kvs =>
    obtain ⟨z, y, xs, r, ob, es, ep, e, c⟩ := x
    exact ⟨z, y, xs, Paired.mapP r fun p q z => ⟨z.1, ht _ _ z.2.1, z.2.2⟩, ob, es, ep, k _ _ (.inl rfl) e, c⟩
  | set S n => obtain ⟨ob, es, ep, t, e, c⟩ := x; exact ⟨ob, es, ep, t, k _ _ (.inl rfl) e, c⟩
  | ins C dx fs =>
    obtain ⟨d, z, ne, e, mA, ⟨od, es, ep, e2, c⟩, r⟩ := x
    exact ⟨ho _ d, z, ne, k _ _ (.inl rfl) e, mA, ⟨od, es, ep, k _ _ (.inr d) e2, c⟩, r⟩
  | own y => obtain ⟨ob, e⟩ := x; exact ⟨ob, k _ _ (.inl rfl) e⟩
  | xd fs => obtain ⟨mA, ⟨od, es, ep, e, c⟩, r⟩ := x; exact ⟨mA, ⟨od, es, ep, k _ _ (.inl rfl) e, c⟩, r⟩
  | rng lo hi => obtain ⟨t, u, v, e⟩ := x; exact ⟨t, u, v, k _ _ (.inl rfl) e⟩
  | frz ob u ih => obtain ⟨e, q⟩ := x; exact ⟨k _ _ (.inl rfl) e, ih q⟩
  | tbl ps =>
    have e : h.get? a = some { cls := .none, data := .fields ps } := x
    show h'.get? a = some { cls := .none, data := .fields ps }
    exact k a _ (.inl rfl) e
  | met f y =>
    have e : h.get? a = some (PySem.W.methodObj (.ref f) (.ref y)) := x
    show h'.get? a = some (PySem.W.methodObj (.ref f) (.ref y))
    exact k a _ (.inl rfl) e
  | ext φ => obtain ⟨p, ⟨o, e⟩, st⟩ := x; exact ⟨st _ _ p fun o q => k _ _ (.inl rfl) q, ⟨o, k _ _ (.inl rfl) e⟩, st⟩
theorem HOk.lt (x : HOk P w H h) (e : H a = some o) : a < h.objs.size := (x a o e).lt
theorem HOk.fresh (x : HOk P w H h) (e : h.objs.size ≤ a) : H a = none := by
  cases q : H a with
  | none => rfl
  | some u => exact absurd (Nat.lt_of_lt_of_le (x.lt q) e) (Nat.lt_irrefl _)
theorem HOk.kept (x : HOk P w H h) (k : ∀ b u, h.get? b = some u → h'.get? b = some u) : HOk P w H h' := fun a o e =>
  (x a o e).stay (fun b u _ q => k b u q) (fun _ q => q) fun _ _ q => q
theorem HOk.laid (x : HOk P w H h) (k : ∀ b u, h.get? b = some u → h'.get? b = some u) (hp : h.objs.size ≤ a) (new : ObjOk P w (upd H a o) h' a o) : HOk P w (upd H a o) h' := fun b u e => by
  have hn := x.fresh hp
  by_cases hb : b = a
  · subst hb; rw [upd_same] at e; cases e; exact new
  · rw [upd_ne hb] at e
    exact (x b u e).stay (fun c v _ q => k c v q) (fun c q => by rw [upd_ne (ne_of_none q hn)]; exact q) fun c xs q => by rw [upd_ne (ne_of_none q hn)]; exact q
end
def Rd (H : Hp) (a : Addr) (u : HO) : Prop := H a = some u ∨ ∃ o, H a = some (.frz o u)
theorem Rd.of {H : Hp} {a : Addr} {u : HO} (h : H a = some u) : Rd H a u := .inl h
theorem Rd.ok {P : Program} {w : World} {H : Hp} {h : Heap} {a : Addr} {u : HO} (r : Rd H a u) (x : HOk P w H h) : ObjOk P w H h a u := by
  rcases r with r | ⟨o, r⟩
  · exact x a u r
  · obtain ⟨_, q⟩ := x a _ r
    exact q
def Mut : Option HO → Prop
  | some (.lst _) => True
  | some (.dK _) => True
  | some (.dT _) => True
  | some (.set _ _) => True
  | some (.ins _ _ _) => True
  | some (.ext _) => True
  | _ => False
section
variable {P : Program} {w : World} {H : Hp} {h h' : Heap} {x e : Addr} {o' : HO}
theorem HOk.write (ok : HOk P w H h) (mu : Mut (H x)) (he : e = x ∨ H e = some (.own x)) (k : ∀ b u, b ≠ e → h.get? b = some u → h'.get? b = some u) (heo : ∃ u, h'.get? e = some u)
    (new : ObjOk P w (upd H x o') h' x o') : HOk P w (upd H x o') h' := fun b u q => by
  have nown : ∀ c y, H c = some (.own y) → c ≠ x := fun c y r z => by subst z; rw [r] at mu; exact mu
  have ntup : ∀ c xs, H c = some (.tup xs) → c ≠ x := fun c xs r z => by subst z; rw [r] at mu; exact mu
  by_cases hb : b = x
  · subst hb; rw [upd_same] at q; cases q; exact new
  · rw [upd_ne hb] at q
    by_cases hbe : b = e
    · have q' : H b = some (.own x) := by
        rcases he with z | z
        · exact absurd (hbe.trans z) hb
        · rw [hbe]; exact z
      rw [q] at q'; cases q'
      obtain ⟨v, hv⟩ := heo
      exact ⟨v, by rw [hbe]; exact hv⟩
    · refine (ok b u q).stay (fun c v hc r => k c v ?_ r) (fun c r => by rw [upd_ne (nown c b r)]; exact r) fun c xs r => by rw [upd_ne (ntup c xs r)]; exact r
      rcases hc with rfl | hc
      · exact hbe
      · rintro rfl
        rcases he with z | z
        · exact nown c b hc z
        · rw [hc] at z; cases z; exact hb rfl
end
structure Un (fs ex : List Addr) (H H' : Hp) (h h' : Heap) : Prop where
  keep : ∀ b o, h.get? b = some o → H b = none → b ∉ fs → b ∉ ex → h'.get? b = some o
  slot : ∀ b o, h.get? b = some o → H b = none → b ∈ fs → b ∉ ex → ∃ sl, h'.get? b = some { o with slots := sl }
  free : ∀ b o, h.get? b = some o → H b = none → b ∉ ex → H' b = none
  there : ∀ b o, h.get? b = some o → b ∉ ex → ∃ o', h'.get? b = some o'
  tups : ∀ b xs, H b = some (.tup xs) → H' b = some (.tup xs)
  frzs : ∀ b o u, H b = some (.frz o u) → H' b = some (.frz o u)
  tbls : ∀ b ps, H b = some (.tbl ps) → ∃ more, H' b = some (.tbl (ps ++ more))
section
variable {fs fs' ex ex' : List Addr} {H H1 H2 : Hp} {h h1 h2 h' : Heap} {a x e : Addr} {o : HO}
theorem Un.any (u : Un fs ex H H1 h h1) {b : Addr} {ob : Obj} (q : h.get? b = some ob) (n : H b = none) (hx : b ∉ ex) : ∃ sl, h1.get? b = some { ob with slots := sl } := by
  by_cases hb : b ∈ fs
  · exact u.slot b ob q n hb hx
  · exact ⟨ob.slots, u.keep b ob q n hb hx⟩
theorem Un.trans (a : Un fs ex H H1 h h1) (b : Un fs ex H1 H2 h1 h2) : Un fs ex H H2 h h2 where
  keep := fun c ob q n hc hx => b.keep c ob (a.keep c ob q n hc hx) (a.free c ob q n hx) hc hx
  slot := fun c ob q n hc hx => by
    obtain ⟨sl, e1⟩ := a.slot c ob q n hc hx
    obtain ⟨sl', e2⟩ := b.slot c _ e1 (a.free c ob q n hx) hc hx
    exact ⟨sl', e2⟩
  free := fun c ob q n hx => by
    obtain ⟨o', e1⟩ := a.there c ob q hx
    exact b.free c o' e1 (a.free c ob q n hx) hx
  there := fun c ob q hx => by
    obtain ⟨o', e1⟩ := a.there c ob q hx
    exact b.there c o' e1 hx
  tups := fun c xs q => b.tups c xs (a.tups c xs q)
  frzs := fun c ob xs q => b.frzs c ob xs (a.frzs c ob xs q)
  tbls := fun c ps q => by
    obtain ⟨m1, e1⟩ := a.tbls c ps q
    obtain ⟨m2, e2⟩ := b.tbls c _ e1
    exact ⟨m1 ++ m2, by rw [e2, Array.append_assoc]⟩
theorem Un.kept (k : ∀ b u, h.get? b = some u → h'.get? b = some u) : Un fs ex H H h h' :=
  ⟨fun b ob q _ _ _ => k b ob q, fun b ob q _ _ _ => ⟨ob.slots, k b ob q⟩, fun _ _ _ n _ => n, fun b ob q _ => ⟨ob, k b ob q⟩, fun _ _ q => q, fun _ _ _ q => q, fun _ ps q => ⟨#[], by rw [q]; simp⟩⟩
theorem Un.refl : Un fs ex H H h h := Un.kept fun _ _ q => q
theorem Un.laid (k : ∀ b u, h.get? b = some u → h'.get? b = some u) (hp : h.objs.size ≤ a) (hn : H a = none) : Un fs ex H (upd H a o) h h' where
  keep := fun b u q _ _ _ => k b u q
  slot := fun b u q _ _ _ => ⟨u.slots, k b u q⟩
  free := fun b u q n _ => by rw [upd_ne (Nat.ne_of_lt (Nat.lt_of_lt_of_le (Heap.lt_size q) hp))]; exact n
  there := fun b u q _ => ⟨u, k b u q⟩
  tups := fun b xs q => by rw [upd_ne (ne_of_none q hn)]; exact q
  frzs := fun b u xs q => by rw [upd_ne (ne_of_none q hn)]; exact q
  tbls := fun b ps q => ⟨#[], by rw [upd_ne (ne_of_none q hn), q]; simp⟩
theorem Un.write (mu : Mut (H x)) (he : e = x ∨ H e = some (.own x)) (k : ∀ b u, b ≠ e → h.get? b = some u → h'.get? b = some u) (heo : ∃ u, h'.get? e = some u) : Un fs ex H (upd H x o) h h' := by
  have hx : ∀ b, H b = none → b ≠ x := fun b n z => by subst z; rw [n] at mu; exact mu
  have hb : ∀ b, H b = none → b ≠ e := fun b n z => by
    subst z
    rcases he with r | r
    · exact hx b n r
    · rw [n] at r; cases r
  have hm : ∀ b u, H b = some u → ¬ Mut (some u) → b ≠ x := fun b u q nm z => by subst z; rw [q] at mu; exact nm mu
  refine ⟨fun b u q n _ _ => k b u (hb b n) q, fun b u q n _ _ => ⟨u.slots, k b u (hb b n) q⟩, fun b u q n _ => by rw [upd_ne (hx b n)]; exact n, fun b u q _ => ?_,
    fun b xs q => by rw [upd_ne (hm b _ q fun z => z)]; exact q, fun b u xs q => by rw [upd_ne (hm b _ q fun z => z)]; exact q, fun b ps q => ⟨#[], by rw [upd_ne (hm b _ q fun z => z), q]; simp⟩⟩
  by_cases hbe : b = e
  · subst hbe; exact heo
  · exact ⟨u, k b u hbe q⟩
theorem Un.mono (u : Un fs ex H H1 h h1) (hs : ∀ b ∈ fs, b ∈ fs') (hx : ∀ b ∈ ex, b ∈ ex') : Un fs' ex' H H1 h h1 :=
  ⟨fun b ob q n hb he => u.keep b ob q n (fun z => hb (hs b z)) fun z => he (hx b z), fun _ _ q n _ he => u.any q n fun z => he (hx _ z), fun b ob q n he => u.free b ob q n fun z => he (hx b z), fun b ob q he => u.there b ob q fun z => he (hx b z), u.tups, u.frzs, u.tbls⟩
end
def trk (h : Heap) (H : Hp) : List Addr := (List.range h.objs.size).filter fun a => (H a).isSome
def hidT (h : Heap) (H : Hp) : Heap := PySem.W.hideAll h (trk h H)
theorem hidT_size (h : Heap) (H : Hp) : (hidT h H).objs.size = h.objs.size := PySem.W.hideAll_size _ _
theorem hidT_get {h : Heap} {H : Hp} {b : Addr} {o : Obj} (e : h.get? b = some o) (n : H b = none) : (hidT h H).get? b = some o :=
  PySem.W.hideAll_get _ e fun hm => by
    have q : (H b).isSome = true := (List.mem_filter.mp hm).2
    rw [n] at q; simp at q
theorem of_hidT {h : Heap} {H : Hp} {b : Addr} {o : Obj} (e : (hidT h H).get? b = some o) : h.get? b = some o ∧ H b = none := by
  have e' : h.get? b = some o := PySem.W.of_hideAll (trk h H) e
  refine ⟨e', ?_⟩
  cases q : H b with
  | none => rfl
  | some x =>
    have hm : b ∈ trk h H := List.mem_filter.mpr ⟨List.mem_range.mpr (Heap.lt_size e'), by simp [q]⟩
    have z : (hidT h H).get? b = none := PySem.W.hideAll_none (trk h H) hm
    rw [z] at e; cases e
def allNews (g h : Heap) (L : Addr) : List (Addr × Obj) := (List.range h.objs.size).filterMap fun a => if a = L ∨ (g.get? a).isSome = true then none else (h.get? a).map fun o => (a, o)
def rest (g h : Heap) (L d : Addr) : List (Addr × Obj) := (allNews g h L).filter fun p => decide (p.1 ≠ d)
end L2
namespace L2
open PySem PySem.Spec PyProof.Rows
structure Mod (K : PySem.W.Frag) (mg : Str → Option Value) (base : Heap) : Prop where
  kin : K.In base
  glob : base.Ns mainGlobals mg
  blt : ∃ mb, base.Ns builtinsNs mb ∧ ∀ x : Str, x ≠ "__name__" → mb x = bootBuiltins x
  nolimit : base.NoLimit
structure Cx where
  prog : Program
  w : World
  K : PySem.W.Frag
  mg : Str → Option Value
  base : Heap
  A : Around
  N : List Str
  s₀ : Shared
  H₀ : Hp
  env : Env
  outer : List Env
  stack : List Env
  ex : List Addr
  fn : Str → Bool
  calm : Bool
  pn : List (Addr × Obj)
  xe : Value → Shared → Prop
def frs (l : List Env) : List Addr := l.filterMap (·.frame)
abbrev Cx.fs (X : Cx) : List Addr := frs X.outer
def Vis (sc : Scope) (x : Str) : Prop := sc.names.lookup x = some .local ∨ sc.names.lookup x = some .cell ∨ sc.names.lookup x = some .free
def Loc (sc : Scope) (x : Str) : Prop := sc.names.lookup x = some .local ∨ sc.names.lookup x = some .cell
def Look (env : Env) (h : Heap) (m : Str → Option Value) (x : Str) (u : Value) : Prop :=
  (env.kindOf x = some .local ∧ m x = some u) ∨ ((env.kindOf x = some .cell ∨ env.kindOf x = some .free) ∧ ∃ c, env.cells.lookup x = some c ∧ h.IsCell c (some u))
structure Cx.Ok (X : Cx) : Prop where
  mod : Mod X.K X.mg X.base
  kind : X.env.scope.kind = .function
  glob : X.env.globals = mainGlobals
  blt : X.env.builtins = builtinsNs
  above : X.s₀.heap.objs.size ≤ X.env.locals
  inj : ∀ x y c, X.env.cells.lookup x = some c → X.env.cells.lookup y = some c → x = y
  has : ∀ x, (X.env.kindOf x = some .cell ∨ X.env.kindOf x = some .free) → ∃ c, X.env.cells.lookup x = some c
  cab : ∀ x c, X.fn x = true → X.env.cells.lookup x = some c → X.s₀.heap.objs.size ≤ c
  hd : X.calm = true → X.A.handled = none
  frames : X.A.frames = some X.stack
  stk : X.stack = X.outer ∨ (X.stack = X.env :: X.outer ∧ X.env.frame = some X.env.locals)
  exf : ∀ b ∈ X.ex, b ≠ X.env.locals ∧ ∀ x c, X.env.cells.lookup x = some c → c ≠ b
  bs : ∀ b o, X.base.get? b = some o → X.s₀.heap.get? b = some o ∧ X.H₀ b = none
  bsz : X.base.objs.size ≤ X.s₀.heap.objs.size
  noex : ∀ b o, X.base.get? b = some o → b ∉ X.ex
  exfs : ∀ b ∈ X.ex, b ∉ X.fs
  funs : X.s₀.heap.FunFrames X.base X.outer
  frf : ∀ b ∈ X.fs, X.H₀ b = none
structure Inv (X : Cx) (pins : List (Addr × Obj)) (σ : List (Option V)) (H : Hp) (s : Shared) : Prop where
  ok : X.Ok
  os : s.os = X.s₀.os
  bare : AllBare s.gens
  base : Un X.fs X.ex X.H₀ H X.s₀.heap s.heap
  loc : ∃ m, s.heap.Ns X.env.locals m ∧ ∀ (i : Nat) (x : Str) (v : V), X.N[i]? = some x → σ[i]? = some (some v) → Vis X.env.scope x → ∃ u, RelV v u ∧ Look X.env s.heap m x u
  cell : ∀ x c, X.env.cells.lookup x = some c → ∃ v, s.heap.IsCell c v
  free : H X.env.locals = none
  freeC : ∀ x c, X.env.cells.lookup x = some c → H c = none
  pin : ∀ p ∈ X.pn ++ pins, s.heap.get? p.1 = some p.2 ∧ H p.1 = none ∧ p.1 ≠ X.env.locals ∧ p.1 ∉ X.fs ∧ ∀ v, p.2.data ≠ .cell v
  hok : HOk X.prog X.w H s.heap
  len : σ.length = X.N.length
section
variable {X : Cx} {pins : List (Addr × Obj)} {σ : List (Option V)} {H H' : Hp} {s : Shared} {h' : Heap}
theorem Cx.Ok.nofr (ok : X.Ok) {b : Addr} {o : Obj} (e : X.base.get? b = some o) : b ∉ X.fs := fun hb => by
  have := (ok.funs.mem hb).1
  rw [e] at this; cases this
theorem Inv.bs (I : Inv X pins σ H s) : ∀ b o, X.base.get? b = some o → s.heap.get? b = some o ∧ H b = none := fun b o e =>
  ⟨I.base.keep b o (I.ok.bs b o e).1 (I.ok.bs b o e).2 (I.ok.nofr e) (I.ok.noex b o e), I.base.free b o (I.ok.bs b o e).1 (I.ok.bs b o e).2 (I.ok.noex b o e)⟩
theorem Inv.bk (I : Inv X pins σ H s) : ∀ b o, X.base.get? b = some o → s.heap.get? b = some o := fun b o e => (I.bs b o e).1
theorem Inv.mod (I : Inv X pins σ H s) : Mod X.K X.mg X.base := I.ok.mod
theorem Inv.kIn (I : Inv X pins σ H s) : X.K.In s.heap := I.ok.mod.kin.keeps I.bk
theorem Inv.nolimit (I : Inv X pins σ H s) : s.heap.NoLimit := I.ok.mod.nolimit.keeps I.bk
theorem Inv.fr (I : Inv X pins σ H s) : ∃ m, Fr X.base X.env.locals s.heap m :=
  let ⟨m, hn, _⟩ := I.loc
  ⟨m, hn, I.bk, Nat.le_trans I.ok.bsz I.ok.above⟩
theorem Inv.lt (I : Inv X pins σ H s) : X.env.locals < s.heap.objs.size := let ⟨_, hn, _⟩ := I.loc; hn.lt
theorem Inv.sz (I : Inv X pins σ H s) : X.s₀.heap.objs.size ≤ s.heap.objs.size := Nat.le_trans I.ok.above (Nat.le_of_lt I.lt)
theorem Inv.nofs (I : Inv X pins σ H s) {a : Addr} (h : s.heap.objs.size ≤ a) : a ∉ X.fs := fun hb => by
  obtain ⟨_, o, ho, _⟩ := I.ok.funs.mem hb
  exact absurd (Nat.lt_of_lt_of_le (Heap.lt_size ho) (Nat.le_trans I.sz h)) (Nat.lt_irrefl _)
theorem Inv.cne (I : Inv X pins σ H s) : ∀ x c, X.env.cells.lookup x = some c → c ≠ X.env.locals := fun x c e z => by
  obtain ⟨v, o, ho, hd⟩ := I.cell x c e
  obtain ⟨m, ⟨o', es, ep, ho', hd', _⟩, _⟩ := I.loc
  rw [z, ho'] at ho; cases ho; rw [hd'] at hd; cases hd
theorem Inv.funs (I : Inv X pins σ H s) : s.heap.FunFrames X.base X.outer := by
  have all : ∀ (l : List Env), (∀ b ∈ frs l, b ∈ X.fs) → X.s₀.heap.FunFrames X.base l → s.heap.FunFrames X.base l := by
    intro l
    induction l with
    | nil => intro _ _; trivial
    | cons env r ih =>
      intro hs hl
      obtain ⟨hk, ⟨L, o, hf, hn, ho, hd⟩, hr⟩ := hl
      have hL : L ∈ X.fs := hs L (by unfold frs; rw [List.filterMap_cons, hf]; exact List.mem_cons_self)
      obtain ⟨sl, e⟩ := I.base.slot L o ho (I.ok.frf L hL) hL fun z => I.ok.exfs L z hL
      exact ⟨hk, ⟨L, _, hf, hn, e, hd⟩, ih (fun b hb => hs b (by unfold frs; rw [List.filterMap_cons, hf]; exact List.mem_cons_of_mem _ hb)) hr⟩
  exact all X.outer (fun _ hb => hb) I.ok.funs
theorem Inv.stack (I : Inv X pins σ H s) : s.heap.FunFrames X.base X.stack := by
  rcases I.ok.stk with e | ⟨e, hf⟩
  · rw [e]; exact I.funs
  · rw [e]
    obtain ⟨m, hn, _⟩ := I.loc
    refine .cons (by rw [I.ok.kind]; decide) hf hn ?_ I.funs
    exact Heap.get?_none_of_le (Nat.le_trans I.ok.bsz I.ok.above)
theorem Inv.stkSub (I : Inv X pins σ H s) : ∀ b ∈ frs X.stack, b ∈ X.env.locals :: X.fs := fun b hb => by
  rcases I.ok.stk with e | ⟨e, hf⟩
  · rw [e] at hb; exact List.mem_cons_of_mem _ hb
  · rw [e] at hb
    unfold frs at hb
    rw [List.filterMap_cons, hf] at hb
    exact hb
theorem Inv.stkFree (I : Inv X pins σ H s) : ∀ b ∈ frs X.stack, H b = none := fun b hb => by
  rcases List.mem_cons.mp (I.stkSub b hb) with e | hb
  · rw [e]; exact I.free
  · obtain ⟨_, o, ho, _⟩ := I.ok.funs.mem hb
    exact I.base.free b o ho (I.ok.frf b hb) fun z => I.ok.exfs b z hb
theorem Inv.step {g' : Array GenState} {t' : Nat} {d' : Drawn} {ch : List Addr} (I : Inv X pins σ H s)
    (hch : ∀ b ∈ ch, (b ∈ X.ex ∨ X.s₀.heap.objs.size ≤ b) ∧ b ≠ X.env.locals ∧ (∀ x c, X.env.cells.lookup x = some c → c ≠ b) ∧ ∀ p ∈ X.pn ++ pins, p.1 ≠ b)
    (keep : ∀ b o, b ≠ X.env.locals → b ∉ X.fs → b ∉ ch → s.heap.get? b = some o → H b = none → h'.get? b = some o)
    (slot : ∀ b o, b ≠ X.env.locals → b ∈ X.fs → b ∉ ch → s.heap.get? b = some o → H b = none → ∃ sl, h'.get? b = some { o with slots := sl }) (free : ∀ b o, b ∉ ch → s.heap.get? b = some o → H b = none → H' b = none)
    (there : ∀ b o, b ∉ ch → s.heap.get? b = some o → ∃ o', h'.get? b = some o')
    (tups : ∀ b xs, H b = some (.tup xs) → H' b = some (.tup xs)) (frzs : ∀ b o u, H b = some (.frz o u) → H' b = some (.frz o u)) (tbls : ∀ b ps, H b = some (.tbl ps) → ∃ more, H' b = some (.tbl (ps ++ more)))
    (ns : ∀ m, s.heap.Ns X.env.locals m → h'.Ns X.env.locals m) (hok : HOk X.prog X.w H' h') (hg : AllBare g') :
    Inv X pins σ H' { s with heap := h', gens := g', drawn := d', toks := t' } := by
  have neL : ∀ b o, X.s₀.heap.get? b = some o → b ≠ X.env.locals := fun b o e => Nat.ne_of_lt (Nat.lt_of_lt_of_le (Heap.lt_size e) I.ok.above)
  have neC : ∀ b o, X.s₀.heap.get? b = some o → b ∉ X.ex → b ∉ ch := fun b o e hx hb => by
    rcases (hch b hb).1 with z | z
    · exact hx z
    · exact absurd (Nat.lt_of_lt_of_le (Heap.lt_size e) z) (Nat.lt_irrefl _)
  have cellK : ∀ x c, X.env.cells.lookup x = some c → ∀ v, s.heap.IsCell c v → h'.IsCell c v := fun x c e v ⟨o, ho, hd⟩ => by
    have nch : c ∉ ch := fun z => (hch c z).2.2.1 x c e rfl
    by_cases hc : c ∈ X.fs
    · obtain ⟨sl, q⟩ := slot c o (I.cne x c e) hc nch ho (I.freeC x c e)
      exact ⟨_, q, hd⟩
    · exact ⟨o, keep c o (I.cne x c e) hc nch ho (I.freeC x c e), hd⟩
  refine ⟨I.ok, I.os, hg, ⟨fun b o e n hb hx => ?_, fun b o e n hb hx => ?_, fun b o e n hx => ?_, fun b o e hx => ?_, fun b xs e => tups b xs (I.base.tups b xs e), fun b o xs e => frzs b o xs (I.base.frzs b o xs e), fun b ps e => ?_⟩, ?_, fun x c e => ?_, ?_, fun x c e => ?_, fun p hp => ?_, hok, I.len⟩
  · exact keep b o (neL b o e) hb (neC b o e hx) (I.base.keep b o e n hb hx) (I.base.free b o e n hx)
  · obtain ⟨sl, e1⟩ := I.base.slot b o e n hb hx
    obtain ⟨sl', e2⟩ := slot b _ (neL b o e) hb (neC b o e hx) e1 (I.base.free b o e n hx)
    exact ⟨sl', e2⟩
  · obtain ⟨o', e1⟩ := I.base.there b o e hx
    exact free b o' (neC b o e hx) e1 (I.base.free b o e n hx)
  · obtain ⟨o', e1⟩ := I.base.there b o e hx
    exact there b o' (neC b o e hx) e1
  · obtain ⟨m1, e1⟩ := I.base.tbls b ps e
    obtain ⟨m2, e2⟩ := tbls b _ e1
    exact ⟨m1 ++ m2, by rw [e2, Array.append_assoc]⟩
  · obtain ⟨m, hn, hl⟩ := I.loc
    refine ⟨m, ns m hn, fun i x v e1 e2 e3 => ?_⟩
    obtain ⟨u, r, l⟩ := hl i x v e1 e2 e3
    refine ⟨u, r, ?_⟩
    rcases l with l | ⟨k, c, e, z⟩
    · exact .inl l
    · exact .inr ⟨k, c, e, cellK x c e _ z⟩
  · obtain ⟨v, z⟩ := I.cell x c e
    exact ⟨v, cellK x c e v z⟩
  · obtain ⟨m, ⟨o, _, _, ho, _⟩, _⟩ := I.loc
    exact free _ o (fun z => (hch _ z).2.1 rfl) ho I.free
  · obtain ⟨v, o, ho, hd⟩ := I.cell x c e
    exact free c o (fun z => (hch c z).2.2.1 x c e rfl) ho (I.freeC x c e)
  · obtain ⟨e, n, ne, nf, d⟩ := I.pin p hp
    have nch : p.1 ∉ ch := fun z => (hch p.1 z).2.2.2 p hp rfl
    exact ⟨keep p.1 p.2 ne nf nch e n, free p.1 p.2 nch e n, ne, nf, d⟩
theorem Inv.un {t' : Nat} (I : Inv X pins σ H s) (u : Un X.fs [] H H' s.heap h') (hok : HOk X.prog X.w H' h') : Inv X pins σ H' { s with heap := h', toks := t' } := by
  obtain ⟨m, ⟨o, es, ep, ho, r⟩, _⟩ := id I.loc
  obtain ⟨sl, hL⟩ := u.any ho I.free (by simp)
  exact I.step (g' := s.gens) (d' := s.drawn) (ch := []) (fun _ z => nomatch z) (fun b o _ hb _ e n => u.keep b o e n hb (by simp)) (fun b o _ hb _ e n => u.slot b o e n hb (by simp)) (fun b o _ e n => u.free b o e n (by simp)) (fun b o _ e => u.there b o e (by simp)) u.tups u.frzs u.tbls (fun m' hm => by
    obtain ⟨o', es', ep', ho', r'⟩ := hm
    rw [ho] at ho'; cases ho'
    exact ⟨_, es', ep', hL, r'⟩) hok I.bare
theorem Inv.call {g' : Array GenState} {t' : Nat} {d' : Drawn} {ch : List Addr} (I : Inv X pins σ H s) (u : Un (frs X.stack) ch H H' s.heap h') (hok : HOk X.prog X.w H' h') (hg : AllBare g')
    (hch : ∀ b ∈ ch, (b ∈ X.ex ∨ X.s₀.heap.objs.size ≤ b) ∧ b ≠ X.env.locals ∧ (∀ x c, X.env.cells.lookup x = some c → c ≠ b) ∧ ∀ p ∈ X.pn ++ pins, p.1 ≠ b) :
    Inv X pins σ H' { s with heap := h', gens := g', drawn := d', toks := t' } := by
  obtain ⟨m, ⟨o, es, ep, ho, r⟩, _⟩ := id I.loc
  obtain ⟨sl, hL⟩ := u.any ho I.free fun z => (hch _ z).2.1 rfl
  exact I.step (ch := ch) hch (fun b o hL hb hc e n => u.keep b o e n (fun z => (List.mem_cons.mp (I.stkSub b z)).elim hL hb) hc) (fun b o _ _ hc e n => u.any e n hc) (fun b o hc e n => u.free b o e n hc) (fun b o hc e => u.there b o e hc) u.tups u.frzs u.tbls (fun m' hm => by
    obtain ⟨o', es', ep', ho', r'⟩ := hm
    rw [ho] at ho'; cases ho'
    exact ⟨_, es', ep', hL, r'⟩) hok hg
theorem Inv.turned {t' : Nat} {it : Addr} (I : Inv X pins σ H s) (k : ∀ b o, b ≠ it → s.heap.get? b = some o → h'.get? b = some o) (hn : H it = none) (hL : it ≠ X.env.locals)
    (h1 : it ∈ X.ex ∨ X.s₀.heap.objs.size ≤ it) (h2 : ∀ x c, X.env.cells.lookup x = some c → c ≠ it) (h3 : ∀ p ∈ X.pn ++ pins, p.1 ≠ it) : Inv X pins σ H { s with heap := h', toks := t' } := by
  have nit : ∀ b u, H b = some u → b ≠ it := fun b u e z => by rw [z, hn] at e; cases e
  refine I.step (g' := s.gens) (d' := s.drawn) (ch := [it]) (fun b hb => ?_) (fun b o _ _ hc e _ => k b o (fun z => hc (by simp [z])) e) (fun b o _ _ hc e _ => ⟨o.slots, k b o (fun z => hc (by simp [z])) e⟩) (fun _ _ _ _ n => n)
    (fun b o hc e => ⟨o, k b o (fun z => hc (by simp [z])) e⟩) (fun _ _ e => e) (fun _ _ _ e => e) (fun b ps e => ⟨#[], by rw [e]; simp⟩) (fun m hm => ?_) (fun b u e => ?_) I.bare
  · have e : b = it := by simpa using hb
    subst e
    exact ⟨h1, hL, h2, h3⟩
  · obtain ⟨o, es, ep, ho, r⟩ := hm
    exact ⟨o, es, ep, k _ o (Ne.symm hL) ho, r⟩
  · refine (I.hok b u e).stay (fun c v hc q => k c v ?_ q) (fun _ q => q) fun _ _ q => q
    rcases hc with z | z
    · rw [z]; exact nit b u e
    · exact nit c _ z
theorem Inv.tok (I : Inv X pins σ H s) (t : Nat) : Inv X pins σ H { s with toks := t } := I.un (h' := s.heap) (t' := t) Un.refl I.hok
theorem Inv.kept {t' : Nat} (I : Inv X pins σ H s) (k : ∀ b u, s.heap.get? b = some u → h'.get? b = some u) : Inv X pins σ H { s with heap := h', toks := t' } := I.un (Un.kept k) (I.hok.kept k)
theorem Inv.laid {a : Addr} {o : HO} {t' : Nat} (I : Inv X pins σ H s) (k : ∀ b u, s.heap.get? b = some u → h'.get? b = some u) (hp : s.heap.objs.size ≤ a) (new : ObjOk X.prog X.w (upd H a o) h' a o) :
    Inv X pins σ (upd H a o) { s with heap := h', toks := t' } := I.un (Un.laid k hp (I.hok.fresh hp)) (I.hok.laid k hp new)
theorem Inv.write {x e : Addr} {o : HO} {t' : Nat} (I : Inv X pins σ H s) (mu : Mut (H x)) (he : e = x ∨ H e = some (.own x)) (k : ∀ b u, b ≠ e → s.heap.get? b = some u → h'.get? b = some u) (heo : ∃ u, h'.get? e = some u)
    (new : ObjOk X.prog X.w (upd H x o) h' x o) : Inv X pins σ (upd H x o) { s with heap := h', toks := t' } := I.un (Un.write mu he k heo) (I.hok.write mu he k heo new)
theorem Inv.weak {σ' : List (Option V)} (I : Inv X pins σ H s) (hl : σ'.length = σ.length) (w : ∀ (i : Nat) v, σ'[i]? = some (some v) → σ[i]? = some (some v)) : Inv X pins σ' H s :=
  ⟨I.ok, I.os, I.bare, I.base, let ⟨m, hn, hl'⟩ := I.loc; ⟨m, hn, fun i x v e1 e2 e3 => hl' i x v e1 (w i v e2) e3⟩, I.cell, I.free, I.freeC, I.pin, I.hok, hl.trans I.len⟩
theorem Inv.pins_of {pins' : List (Addr × Obj)} (I : Inv X pins σ H s) (h : ∀ p ∈ pins', s.heap.get? p.1 = some p.2 ∧ H p.1 = none ∧ p.1 ≠ X.env.locals ∧ p.1 ∉ X.fs ∧ ∀ v, p.2.data ≠ .cell v) : Inv X pins' σ H s :=
  ⟨I.ok, I.os, I.bare, I.base, I.loc, I.cell, I.free, I.freeC, fun p hp => (List.mem_append.mp hp).elim (fun z => I.pin p (List.mem_append_left _ z)) (h p), I.hok, I.len⟩
theorem nodup_ix {N : List Str} (hN : N.Nodup) {i j : Nat} {x : Str} (a : N[i]? = some x) (b : N[j]? = some x) : i = j := by
  obtain ⟨h1, e1⟩ := List.getElem?_eq_some_iff.mp a
  obtain ⟨h2, e2⟩ := List.getElem?_eq_some_iff.mp b
  exact (List.getElem_inj hN).mp (e1.trans e2.symm)
theorem store_ok2 {M : Model} {A : Around} {E : Value → Shared → Prop} {i : Nat} {x : Str} {v : V} {u : Value} {Q : Unit → Shared → Prop} (I : Inv X pins σ H s) (hN : X.N.Nodup) (hi : X.N[i]? = some x) (hx : Loc X.env.scope x) (r : RelV v u)
    (h : ∀ s', Inv X pins (σ.set i (some v)) H s' → (∃ a, Heap.SameBut a s.heap s'.heap ∧ (a = X.env.locals ∨ X.env.cells.lookup x = some a)) → Q () s') (hf : X.fn x = true ∨ X.env.scope.names.lookup x = some .local := by first | exact .inl rfl | exact .inr rfl | assumption) : wpAny M A (storeName X.env x u) Q E s := by
  obtain ⟨m, hn, hl⟩ := id I.loc
  have hcls : (X.env.scope.kind == .class || (X.env.scope.kind == .module && X.env.locals != X.env.globals)) = false := by rw [I.ok.kind]; rfl
  have hiσ : i < σ.length := by rw [I.len]; exact (List.getElem?_eq_some_iff.mp hi).1
  have cne := I.cne
  have tracked : ∀ {a : Addr} {h' : Heap}, (∃ o, s.heap.get? a = some o ∧ H a = none) → Heap.SameBut a s.heap h' → HOk X.prog X.w H h' := fun {a h'} ha hs b ob e => by
    obtain ⟨_, _, hfree⟩ := ha
    refine (I.hok b ob e).stay (fun c w' hc q => (hs.2 c ?_).trans q) (fun _ q => q) fun _ _ q => q
    rintro rfl
    rcases hc with rfl | hc
    · rw [hfree] at e; cases e
    · rw [hfree] at hc; cases hc
  rcases hx with hk | hk
  · refine wpAny_storeName_local hk hn (fun h' hn' hs => ?_) hcls
    obtain ⟨oL, _, _, hoL, _⟩ := id hn
    refine h _ ⟨I.ok, I.os, I.bare, ⟨fun b o e n hb hx => ?_, fun b o e n hb hx => ?_, I.base.free, fun b o e hx => ?_, I.base.tups, I.base.frzs, I.base.tbls⟩, ⟨_, hn', fun j y v' e1 e2 e3 => ?_⟩, fun y c e => ?_, I.free, I.freeC, fun p hp => ?_, tracked ⟨oL, hoL, I.free⟩ hs, by simpa using I.len⟩ ⟨_, hs, .inl rfl⟩
    · exact (hs.2 b (Nat.ne_of_lt (Nat.lt_of_lt_of_le (Heap.lt_size e) I.ok.above))).trans (I.base.keep b o e n hb hx)
    · obtain ⟨sl, e1⟩ := I.base.slot b o e n hb hx
      exact ⟨sl, (hs.2 b (Nat.ne_of_lt (Nat.lt_of_lt_of_le (Heap.lt_size e) I.ok.above))).trans e1⟩
    · obtain ⟨o', e1⟩ := I.base.there b o e hx
      exact ⟨o', (hs.2 b (Nat.ne_of_lt (Nat.lt_of_lt_of_le (Heap.lt_size e) I.ok.above))).trans e1⟩
    · by_cases hj : j = i
      · subst hj
        rw [hi] at e1; cases e1
        rw [List.getElem?_set_self hiσ] at e2
        cases e2
        exact ⟨u, r, .inl ⟨hk, by simp⟩⟩
      · rw [List.getElem?_set_ne (Ne.symm hj)] at e2
        obtain ⟨u', r', q⟩ := hl j y v' e1 e2 e3
        refine ⟨u', r', ?_⟩
        rcases q with ⟨k, e⟩ | ⟨k, c, e, z⟩
        · refine .inl ⟨k, ?_⟩
          have : y ≠ x := fun e => hj (nodup_ix hN e1 (e ▸ hi))
          simp [this, e]
        · exact .inr ⟨k, c, e, z.sameBut hs (cne y c e)⟩
    · obtain ⟨w', z⟩ := I.cell y c e
      exact ⟨w', z.sameBut hs (cne y c e)⟩
    · obtain ⟨e, n, ne, nf, d⟩ := I.pin p hp
      exact ⟨(hs.2 p.1 ne).trans e, n, ne, nf, d⟩
  · have hfn : X.fn x = true := by
      rcases hf with z | z
      · exact z
      · rw [z] at hk; cases hk
    obtain ⟨c, hc⟩ := I.ok.has x (.inl hk)
    obtain ⟨w', z⟩ := I.cell x c hc
    refine wpAny_storeName_cell I.ok.kind hk hc z (fun h' hc' hs => ?_)
    obtain ⟨oc, hoc, hocd⟩ := id z
    refine h { s with heap := h' } ⟨I.ok, I.os, I.bare, ⟨fun b o e n hb hx => ?_, fun b o e n hb hx => ?_, I.base.free, fun b o e hx => ?_, I.base.tups, I.base.frzs, I.base.tbls⟩, ⟨m, hn.sameBut hs (Ne.symm (cne x c hc)), fun j y v' e1 e2 e3 => ?_⟩, fun y c' e => ?_, I.free, I.freeC, fun p hp => ?_, tracked ⟨oc, hoc, I.freeC x c hc⟩ hs, by simpa using I.len⟩ ⟨c, hs, .inr hc⟩
    · exact (hs.2 b (Nat.ne_of_lt (Nat.lt_of_lt_of_le (Heap.lt_size e) (I.ok.cab x c hfn hc)))).trans (I.base.keep b o e n hb hx)
    · obtain ⟨sl, e1⟩ := I.base.slot b o e n hb hx
      exact ⟨sl, (hs.2 b (Nat.ne_of_lt (Nat.lt_of_lt_of_le (Heap.lt_size e) (I.ok.cab x c hfn hc)))).trans e1⟩
    · obtain ⟨o', e1⟩ := I.base.there b o e hx
      exact ⟨o', (hs.2 b (Nat.ne_of_lt (Nat.lt_of_lt_of_le (Heap.lt_size e) (I.ok.cab x c hfn hc)))).trans e1⟩
    · by_cases hj : j = i
      · subst hj
        rw [hi] at e1; cases e1
        rw [List.getElem?_set_self hiσ] at e2
        cases e2
        exact ⟨u, r, .inr ⟨.inl hk, c, hc, hc'⟩⟩
      · rw [List.getElem?_set_ne (Ne.symm hj)] at e2
        obtain ⟨u', r', q⟩ := hl j y v' e1 e2 e3
        refine ⟨u', r', ?_⟩
        rcases q with q | ⟨k, c', e, z'⟩
        · exact .inl q
        · refine .inr ⟨k, c', e, z'.sameBut hs ?_⟩
          rintro rfl
          exact hj (nodup_ix hN e1 (I.ok.inj _ _ _ e hc ▸ hi))
    · by_cases hcc : c' = c
      · subst hcc; exact ⟨_, hc'⟩
      · obtain ⟨w2, z2⟩ := I.cell y c' e
        exact ⟨w2, z2.sameBut hs hcc⟩
    · obtain ⟨e, n, ne, nf, d⟩ := I.pin p hp
      refine ⟨(hs.2 p.1 ?_).trans e, n, ne, nf, d⟩
      intro q
      rw [q, hoc] at e
      have q' : oc = p.2 := Option.some.inj e
      exact d w' (by rw [← q']; exact hocd)
theorem store_ok {M : Model} {A : Around} {E : Value → Shared → Prop} {i : Nat} {x : Str} {v : V} {u : Value} {Q : Unit → Shared → Prop} (I : Inv X pins σ H s) (hN : X.N.Nodup) (hi : X.N[i]? = some x) (hx : Loc X.env.scope x) (r : RelV v u)
    (h : ∀ s', Inv X pins (σ.set i (some v)) H s' → Q () s') (hf : X.fn x = true ∨ X.env.scope.names.lookup x = some .local := by first | exact .inl rfl | exact .inr rfl | assumption) : wpAny M A (storeName X.env x u) Q E s :=
  store_ok2 I hN hi hx r (fun s' I' _ => h s' I') hf
theorem Inv.call' {s' : Shared} {ch : List Addr} (I : Inv X pins σ H s) (ho : s'.os = s.os) (u : Un (frs X.stack) ch H H' s.heap s'.heap) (hok : HOk X.prog X.w H' s'.heap) (hg : AllBare s'.gens)
    (hch : ∀ b ∈ ch, (b ∈ X.ex ∨ X.s₀.heap.objs.size ≤ b) ∧ b ≠ X.env.locals ∧ (∀ x c, X.env.cells.lookup x = some c → c ≠ b) ∧ ∀ p ∈ X.pn ++ pins, p.1 ≠ b) : Inv X pins σ H' s' := by
  obtain ⟨h', g', d', t', o'⟩ := s'
  have e : o' = s.os := ho
  subst e
  exact I.call (g' := g') (t' := t') (d' := d') u hok hg hch
end
abbrev XK := Value → Option Addr → Hp → Prop
abbrev St := List (Option V)
abbrev VK := V → Hp → Prop
abbrev TE := St → Hp → VK → Prop
abbrev TT := St → Hp → (Bool → Hp → Prop) → Prop
abbrev TA := St → Hp → (List V → Hp → Prop) → Prop
structure Ends where
  nx : St → Hp → Prop
  rt : VK
  bk : St → Hp → Prop := fun _ _ => False
  ct : St → Hp → Prop := fun _ _ => False
abbrev TS := Ends → St → Hp → Prop
def EP (X : Cx) (pins : List (Addr × Obj)) (σ : St) (Q : VK) (u : Value) (s' : Shared) : Prop := ∃ v H', Inv X pins σ H' s' ∧ RelV v u ∧ Q v H'
def TP (X : Cx) (pins : List (Addr × Obj)) (σ : St) (Q : Bool → Hp → Prop) (b : Bool) (s' : Shared) : Prop := ∃ H', Inv X pins σ H' s' ∧ Q b H'
def AP (X : Cx) (pins : List (Addr × Obj)) (σ : St) (Q : List V → Hp → Prop) (us : List Value) (s' : Shared) : Prop := ∃ vs H', Inv X pins σ H' s' ∧ Vals vs us ∧ Q vs H'
def SP (X : Cx) (pins : List (Addr × Obj)) (D : Ends) (f : Flow) (s' : Shared) : Prop :=
  match f with
  | .next => ∃ σ' H', Inv X pins σ' H' s' ∧ D.nx σ' H'
  | .brk => ∃ σ' H', Inv X pins σ' H' s' ∧ D.bk σ' H'
  | .cont => ∃ σ' H', Inv X pins σ' H' s' ∧ D.ct σ' H'
  | .ret u => ∃ v σ' H', Inv X pins σ' H' s' ∧ RelV v u ∧ D.rt v H'
def PE (X : Cx) (e : Expr) (t : TE) : Prop :=
  ∀ (pins : List (Addr × Obj)) (s : Shared) (σ : St) (H : Hp) (Q : VK), Inv X pins σ H s → t σ H Q → wpAny (model X.prog X.w) X.A (eval e X.env) (EP X pins σ Q) X.xe s
def PT (X : Cx) (e : Expr) (t : TT) : Prop :=
  ∀ (pins : List (Addr × Obj)) (s : Shared) (σ : St) (H : Hp) (Q : Bool → Hp → Prop), Inv X pins σ H s → t σ H Q → wpAny (model X.prog X.w) X.A (isTrue e X.env (eval e X.env)) (TP X pins σ Q) X.xe s
def PW (X : Cx) (e : Expr) (t : TT) : Prop :=
  ∀ (whole : Sem Value) (pins : List (Addr × Obj)) (s : Shared) (σ : St) (H : Hp) (Q : Bool → Hp → Prop), Inv X pins σ H s → t σ H Q → wpAny (model X.prog X.w) X.A (isTrue e X.env whole) (TP X pins σ Q) X.xe s
theorem PW.pt {X : Cx} {e : Expr} {t : TT} (h : PW X e t) : PT X e t := h _
def PA (X : Cx) (es : List Expr) (t : TA) : Prop :=
  ∀ (pos : Pos) (pins : List (Addr × Obj)) (s : Shared) (σ : St) (H : Hp) (Q : List V → Hp → Prop), Inv X pins σ H s → t σ H Q → wpAny (model X.prog X.w) X.A (spliced (backTo pos (starEach es X.env))) (AP X pins σ Q) X.xe s
def PS (X : Cx) (st : Stmt) (t : TS) : Prop :=
  ∀ (pins : List (Addr × Obj)) (s : Shared) (σ : St) (H : Hp) (D : Ends), Inv X pins σ H s → t D σ H → wpAny (model X.prog X.w) X.A (exec st X.env) (SP X pins D) X.xe s
def PSs (X : Cx) (st : List Stmt) (t : TS) : Prop :=
  ∀ (pins : List (Addr × Obj)) (s : Shared) (σ : St) (H : Hp) (D : Ends), Inv X pins σ H s → t D σ H → wpAny (model X.prog X.w) X.A (execs st X.env) (SP X pins D) X.xe s
theorem thn {α : Type} {t : Sem α} {Q Q' : α → Shared → Prop} {M : Model} {A : Around} {E : Value → Shared → Prop} {s : Shared} (h : wpAny M A t Q E s) (hQ : ∀ a s, Q a s → Q' a s) : wpAny M A t Q' E s := wpAny_mono h hQ fun _ _ x => x
end L2
namespace L2
open PySem PySem.Spec PyProof.Rows
section
variable {X : Cx}
def tVar (i : Nat) : TE := fun σ H Q => ∃ v, σ[i]? = some (some v) ∧ Q v H
def tC (v : V) : TE := fun _ H Q => Q v H
theorem pe_var {i : Nat} {x : Str} {pos : Pos} (hN : X.N[i]? = some x) (hv : Vis X.env.scope x) (hd : (x == ("__debug__" : Str)) = false := by decide) (hcd : (x == ("__classdict__" : Str)) = false := by decide) : PE X (.Name x pos) (tVar i) := by
  intro pins s σ H Q I h
  obtain ⟨v, e, h⟩ := h
  obtain ⟨m, hn, hl⟩ := I.loc
  obtain ⟨u, r, l⟩ := hl i x v hN e hv
  have fin : EP X pins σ Q u s := ⟨v, H, I, r, h⟩
  rcases l with ⟨hk, hm⟩ | ⟨hk, c, hc, hcell⟩
  · exact wpAny_Name (wpAny_loadName_local I.ok.kind hk hn hm fin) hd
  · rcases hk with hk | hk
    · exact wpAny_Name (wpAny_loadName_cell I.ok.kind hk hc hcell fin) hd
    · exact wpAny_Name (wpAny_loadName_free I.ok.kind hk hc hcell fin hcd) hd
theorem pe_int {i j pos} : PE X (.Constant (.int i) j pos) (tC (.int i)) := fun _ _ _ H _ I h => wpAny_Constant_int ⟨.int i, H, I.tok _, ⟨_, rfl⟩, h⟩
theorem pe_bl {b j pos} : PE X (.Constant (.bool b) j pos) (tC (.bl b)) := fun _ _ _ H _ I h => Constant_bool ⟨.bl b, H, I, rfl, h⟩
theorem pe_str {x j pos} : PE X (.Constant (.str x) j pos) (tC (.str x)) := fun _ _ _ H _ I h => Calls.Constant_str ⟨.str x, H, I.tok _, ⟨_, rfl⟩, h⟩
def Gl (X : Cx) (x : Str) : Prop := X.env.kindOf x = some .globalImplicit
theorem ld_glob {E : Value → Shared → Prop} {pins : List (Addr × Obj)} {s : Shared} {σ : St} {H : Hp} {x : Str} {u : Value} {pos : Pos} {Q : Value → Shared → Prop} (I : Inv X pins σ H s) (hg : Gl X x) (hm : X.mg x = some u) (h : Q u s)
    (hd : (x == ("__debug__" : Str)) = false := by decide) : wpAny (model X.prog X.w) X.A (eval (.Name x pos) X.env) Q E s :=
  Calls.Name_function_global I.ok.kind hg (Calls.loadGlobal_global (by rw [I.ok.glob]; exact I.mod.glob.keeps I.bk) hm h) hd
theorem ld_blt {E : Value → Shared → Prop} {pins : List (Addr × Obj)} {s : Shared} {σ : St} {H : Hp} {x : Str} {u : Value} {pos : Pos} {Q : Value → Shared → Prop} (I : Inv X pins σ H s) (hg : Gl X x) (hm : X.mg x = none) (hv : bootBuiltins x = some u) (h : Q u s)
    (hn : x ≠ "__name__" := by decide) (hd : (x == ("__debug__" : Str)) = false := by decide) : wpAny (model X.prog X.w) X.A (eval (.Name x pos) X.env) Q E s := by
  obtain ⟨mb, h1, h2⟩ := I.mod.blt
  exact Calls.Name_function_global I.ok.kind hg (Calls.loadGlobal_builtin (by rw [I.ok.glob]; exact I.mod.glob.keeps I.bk) hm (by rw [I.ok.blt]; exact h1.keeps I.bk) ((h2 x hn).trans hv) h) hd
theorem pe_glob {x : Str} {v : V} {u : Value} {pos : Pos} (hg : Gl X x) (hm : X.mg x = some u) (r : RelV v u) (hd : (x == ("__debug__" : Str)) = false := by decide) : PE X (.Name x pos) (tC v) :=
  fun _ _ _ H _ I h => ld_glob I hg hm ⟨v, H, I, r, h⟩ hd
theorem pe_bltn {x : Str} {v : V} {u : Value} {pos : Pos} (hg : Gl X x) (hm : X.mg x = none) (hv : bootBuiltins x = some u) (r : RelV v u) (hn : x ≠ "__name__" := by decide) (hd : (x == ("__debug__" : Str)) = false := by decide) : PE X (.Name x pos) (tC v) :=
  fun _ _ _ H _ I h => ld_blt I hg hm hv ⟨v, H, I, r, h⟩ hn hd
def t2I (ta tb : TE) (k : Int → Int → Hp → Prop) : St → Hp → Prop := fun σ H => ta σ H fun x H1 => tb σ H1 fun y H2 => ∃ i j, x = .int i ∧ y = .int j ∧ k i j H2
def tAdd (ta tb : TE) : TE := fun σ H Q => t2I ta tb (fun i j H2 => Q (.int (i + j)) H2) σ H
def tSub (ta tb : TE) : TE := fun σ H Q => t2I ta tb (fun i j H2 => Q (.int (i - j)) H2) σ H
def tMul (ta tb : TE) : TE := fun σ H Q => t2I ta tb (fun i j H2 => (-(2 ^ 64) < i ∧ i < 2 ^ 64) ∧ Q (.int (i * j)) H2) σ H
variable {a b : Expr} {ta tb : TE} {pos : Pos}
def PC (X : Cx) (op : CmpOp) (a b : Expr) (t : TE) : Prop :=
  ∀ (pins : List (Addr × Obj)) (s : Shared) (σ : St) (H : Hp) (Q : VK), Inv X pins σ H s → t σ H Q →
    wpAny (model X.prog X.w) X.A (eval a X.env) (fun v s₁ => wpAny (model X.prog X.w) X.A (eval b X.env) (fun u s₂ => wpAny (model X.prog X.w) X.A (compareOp op v u) (EP X pins σ Q) X.xe s₂) X.xe s₁) X.xe s
theorem nobehind (b : Expr) {op : CmpOp} (h : op ≠ .In) (h2 : op ≠ .NotIn) : behindInMarks op b = false := by
  have e1 : (op == CmpOp.In) = false := by cases op <;> first | rfl | exact absurd rfl h
  have e2 : (op == CmpOp.NotIn) = false := by cases op <;> first | rfl | exact absurd rfl h2
  cases b <;> simp [behindInMarks, e1, e2]
def tCmp (p : Int → Int → Bool) (ta tb : TE) : TE := fun σ H Q => t2I ta tb (fun i j H2 => Q (.bl (p i j)) H2) σ H
abbrev tLt : TE → TE → TE := tCmp fun i j => decide (i < j)
abbrev tLe : TE → TE → TE := tCmp fun i j => decide (i ≤ j)
abbrev tGt : TE → TE → TE := tCmp fun i j => decide (j < i)
abbrev tGe : TE → TE → TE := tCmp fun i j => decide (j ≤ i)
abbrev tEqI : TE → TE → TE := tCmp fun i j => decide (i = j)
abbrev tNeI : TE → TE → TE := tCmp fun i j => !decide (i = j)
def tIsN (ta : TE) : TE := fun σ H Q => ta σ H fun x H1 => Q (.bl (decide (x = .non))) H1
def tNotN (ta : TE) : TE := fun σ H Q => ta σ H fun x H1 => Q (.bl (!decide (x = .non))) H1
def tB (t : TE) : TT := fun σ H Q => t σ H fun x H1 => ∃ c, x = .bl c ∧ Q c H1
theorem pt_cmp {op : CmpOp} {t : TE} (h : PC X op a b t) (h1 : behindInMarks op b = false := by first | exact nobehind _ (by decide) (by decide) | rfl) : PT X (.Compare a [op] [b] pos) (tB t) := by
  intro pins s σ H Q I hw
  refine wpAny_isTrue_Compare1 (thn (h pins s σ H _ I hw) fun v s1 h1 => thn h1 fun u s2 h2 => thn h2 fun c s3 ⟨x, H1, I1, r1, q1⟩ => ?_) h1
  obtain ⟨d, rfl, q⟩ := q1
  cases r1
  exact wpAny_truthy_bool ⟨H1, I1, q⟩
theorem pt_val {e : Expr} {t : TE} (h : PE X e t) (he : ∀ whole, isTrue e X.env whole = (do let v ← whole; standAt e.pos; holding [v] (truthy v)) := by intro _; rfl) : PT X e (tB t) := by
  intro pins s σ H Q I hw
  refine isTrue_plain (thn (h pins s σ H _ I hw) fun v s1 ⟨x, H1, I1, r1, q1⟩ => ?_) (he _)
  obtain ⟨d, rfl, q⟩ := q1
  cases r1
  exact wpAny_truthy_bool ⟨H1, I1, q⟩
variable {tA tB' : TT} {rest : List Expr}
def tAnd (t u : TT) : TT := fun σ H Q => t σ H fun c H1 => if c = true then u σ H1 Q else Q false H1
def tOr (t u : TT) : TT := fun σ H Q => t σ H fun c H1 => if c = true then Q true H1 else u σ H1 Q
def tNot (t : TT) : TT := fun σ H Q => t σ H fun c H1 => Q (!c) H1
theorem pw_and1 (ha : PT X a tA) : PW X (.BoolOp .And [a] pos) tA := by
  intro wh pins s σ H Q I h
  refine isTrue_and (thn (ha pins s σ H Q I h) fun c s1 e => ?_)
  cases c with
  | true => exact isTrue_and_nil e
  | false => exact e
theorem pw_or1 (ha : PT X a tA) : PW X (.BoolOp .Or [a] pos) tA := by
  intro wh pins s σ H Q I h
  refine isTrue_or (thn (ha pins s σ H Q I h) fun c s1 e => ?_)
  cases c with
  | false => exact isTrue_or_nil e
  | true => exact e
theorem pw_and (ha : PT X a tA) (hb : PW X (.BoolOp .And (b :: rest) pos) tB') : PW X (.BoolOp .And (a :: b :: rest) pos) (tAnd tA tB') := by
  intro wh pins s σ H Q I h
  refine isTrue_and (thn (ha pins s σ H _ I h) fun c s1 ⟨H1, I1, q1⟩ => ?_)
  cases c with
  | true => exact hb wh pins s1 σ H1 Q I1 q1
  | false => exact ⟨H1, I1, q1⟩
theorem pw_or (ha : PT X a tA) (hb : PW X (.BoolOp .Or (b :: rest) pos) tB') : PW X (.BoolOp .Or (a :: b :: rest) pos) (tOr tA tB') := by
  intro wh pins s σ H Q I h
  refine isTrue_or (thn (ha pins s σ H _ I h) fun c s1 ⟨H1, I1, q1⟩ => ?_)
  cases c with
  | true => exact ⟨H1, I1, q1⟩
  | false => exact hb wh pins s1 σ H1 Q I1 q1
theorem pt_not (ha : PT X a tA) : PT X (.UnaryOp .Not a pos) (tNot tA) := by
  intro pins s σ H Q I h
  exact isTrue_not (ha pins s σ H (fun c H1 => Q (!c) H1) I h)
def tAndV (ta tb : TE) : TE := fun σ H Q => ta σ H fun x H1 => ∃ c, x = .bl c ∧ if c = true then tb σ H1 Q else Q (.bl false) H1
def tOrV (ta tb : TE) : TE := fun σ H Q => ta σ H fun x H1 => ∃ c, x = .bl c ∧ if c = true then Q (.bl true) H1 else tb σ H1 Q
def tNotV (ta : TE) : TE := fun σ H Q => ta σ H fun x H1 => ∃ c, x = .bl c ∧ Q (.bl (!c)) H1
theorem pe_one {op} {t : TE} (h : PE X a t) : PE X (.BoolOp op [a] pos) t := fun pins s σ H Q I hw => BoolOp_one (h pins s σ H Q I hw)
theorem pe_and (ha : PE X a ta) (hb : PE X (.BoolOp .And (b :: rest) pos) tb) : PE X (.BoolOp .And (a :: b :: rest) pos) (tAndV ta tb) := by
  intro pins s σ H Q I h
  refine BoolOp_and (thn (ha pins s σ H _ I h) fun v s1 ⟨x, H1, I1, r1, q1⟩ => ?_)
  obtain ⟨c, rfl, q1⟩ := q1
  cases r1
  refine wpAny_truthy_bool ?_
  cases c with
  | true => exact hb pins s1 σ H1 Q I1 q1
  | false => exact ⟨.bl false, H1, I1, rfl, q1⟩
theorem pe_or (ha : PE X a ta) (hb : PE X (.BoolOp .Or (b :: rest) pos) tb) : PE X (.BoolOp .Or (a :: b :: rest) pos) (tOrV ta tb) := by
  intro pins s σ H Q I h
  refine BoolOp_or (thn (ha pins s σ H _ I h) fun v s1 ⟨x, H1, I1, r1, q1⟩ => ?_)
  obtain ⟨c, rfl, q1⟩ := q1
  cases r1
  refine wpAny_truthy_bool ?_
  cases c with
  | false => exact hb pins s1 σ H1 Q I1 q1
  | true => exact ⟨.bl true, H1, I1, rfl, q1⟩
def tIf (t : TT) (ta tb : TE) : TE := fun σ H Q => t σ H fun c H1 => if c = true then ta σ H1 Q else tb σ H1 Q
end
end L2
namespace L2
open PySem PySem.Spec PyProof.Rows
def SqL (K : PySem.W.Frag) (H : Hp) (a : Addr) (xs : List V) : Prop :=
  Rd H a (.lst xs) ∨
    ∃ (o : Obj) (its : Array Value) (n : Nat), K.lookup a = some o ∧ o.cls = .type "list" ∧ o.dict = none ∧ o.data = .seq its n ∧ its.size ≤ sizeLine ∧ Vals xs its.toList
def SqT (K : PySem.W.Frag) (H : Hp) (a : Addr) (xs : List V) : Prop :=
  Rd H a (.tup xs) ∨
    ∃ (o : Obj) (its : Array Value) (n : Nat), K.lookup a = some o ∧ o.cls = .type "tuple" ∧ o.data = .seq its n ∧ its.size ≤ sizeLine ∧ Vals xs its.toList
def absV : Value → Option V
  | .none => some .non
  | .bool b => some (.bl b)
  | .int i _ => some (.int i)
  | .str x _ => some (.str x)
  | .bytes b _ => some (.byt b)
  | .float b _ => some (.flt b)
  | .ref a => some (.ref a)
  | .type n => some (.ty n)
  | _ => none
theorem RelV.abs {x : V} {u : Value} (r : RelV x u) : absV u = some x := by
  cases x with
  | non => cases r; rfl
  | bl _ => cases r; rfl
  | int _ => obtain ⟨t, rfl⟩ := r; rfl
  | str _ => obtain ⟨t, rfl⟩ := r; rfl
  | byt _ => obtain ⟨t, rfl⟩ := r; rfl
  | flt _ => obtain ⟨t, rfl⟩ := r; rfl
  | ref _ => cases r; rfl
  | ty _ => cases r; rfl
theorem RelV.inj {x y : V} {u : Value} (r : RelV x u) (q : RelV y u) : x = y := Option.some.inj (r.abs.symm.trans q.abs)
theorem Vals.inj : ∀ {xs ys : List V} {us : List Value}, Vals xs us → Vals ys us → xs = ys
  | _, _, _, .nil, .nil => rfl
  | _, _, _, .cons r t, .cons r' t' => by rw [r.inj r', Vals.inj t t']
section
variable {X : Cx} {pins : List (Addr × Obj)} {σ : St} {H : Hp} {s : Shared} {a : Addr} {xs ys : List V}
theorem SqL.of {K : PySem.W.Frag} (h : H a = some (.lst xs)) : SqL K H a xs := .inl (.inl h)
theorem SqT.of {K : PySem.W.Frag} (h : H a = some (.tup xs)) : SqT K H a xs := .inl (.inl h)
theorem Inv.list (I : Inv X pins σ H s) (h : SqL X.K H a xs) : ∃ its : List Value, Vals xs its ∧ PlainL s.heap a its.toArray ∧ xs.length ≤ sizeLine := by
  rcases h with h | ⟨o, its, n, hk, hc, hd, hs, hz, r⟩
  · obtain ⟨z, its, n, r, e⟩ := h.ok I.hok
    exact ⟨its, r, ⟨_, n, e, rfl, rfl, rfl⟩, z⟩
  · refine ⟨its.toList, r, ⟨o, n, I.kIn a o hk, hc, hd, by simpa using hs⟩, ?_⟩
    have e := r.length
    simp only [Array.length_toList] at e
    omega
theorem Inv.tuple (I : Inv X pins σ H s) (h : SqT X.K H a xs) : ∃ its : List Value, Vals xs its ∧ IsTup s.heap a its.toArray ∧ xs.length ≤ sizeLine := by
  rcases h with h | ⟨o, its, n, hk, hc, hs, hz, r⟩
  · obtain ⟨z, its, r, p⟩ := h.ok I.hok
    exact ⟨its, r, p, z⟩
  · refine ⟨its.toList, r, ⟨o, I.kIn a o hk, hc, n, by simpa using hs⟩, ?_⟩
    have e := r.length
    simp only [Array.length_toList] at e
    omega
theorem Inv.list_inj (I : Inv X pins σ H s) (h : SqL X.K H a xs) (h' : SqL X.K H a ys) : xs = ys := by
  obtain ⟨its, r, ⟨o, n, e, _, _, d⟩, _⟩ := I.list h
  obtain ⟨its', r', ⟨o', n', e', _, _, d'⟩, _⟩ := I.list h'
  rw [e] at e'; cases e'
  rw [d] at d'
  injection d' with d1 _
  have : its = its' := by simpa using congrArg Array.toList d1
  subst this
  exact r.inj r'
theorem Inv.tuple_inj (I : Inv X pins σ H s) (h : SqT X.K H a xs) (h' : SqT X.K H a ys) : xs = ys := by
  obtain ⟨its, r, ⟨o, e, _, n, d⟩, _⟩ := I.tuple h
  obtain ⟨its', r', ⟨o', e', _, n', d'⟩, _⟩ := I.tuple h'
  rw [e] at e'; cases e'
  rw [d] at d'
  injection d' with d1 _
  have : its = its' := by simpa using congrArg Array.toList d1
  subst this
  exact r.inj r'
end
abbrev Cx.wish (X : Cx) (E : Value → Shared → Prop) : Cx := { X with xe := E }
abbrev Cx.nox (X : Cx) : Cx := X.wish fun _ _ => False
theorem Cx.Ok.wish {X : Cx} (ok : X.Ok) (E : Value → Shared → Prop) : (X.wish E).Ok :=
  ⟨ok.mod, ok.kind, ok.glob, ok.blt, ok.above, ok.inj, ok.has, ok.cab, ok.hd, ok.frames, ok.stk, ok.exf, ok.bs, ok.bsz, ok.noex, ok.exfs, ok.funs, ok.frf⟩
theorem Cx.Ok.unwish {X : Cx} {E : Value → Shared → Prop} (ok : (X.wish E).Ok) : X.Ok :=
  ⟨ok.mod, ok.kind, ok.glob, ok.blt, ok.above, ok.inj, ok.has, ok.cab, ok.hd, ok.frames, ok.stk, ok.exf, ok.bs, ok.bsz, ok.noex, ok.exfs, ok.funs, ok.frf⟩
section
variable {X : Cx} {pins : List (Addr × Obj)} {σ : St} {H : Hp} {s : Shared} {E : Value → Shared → Prop}
theorem Inv.wish (I : Inv X pins σ H s) (E : Value → Shared → Prop) : Inv (X.wish E) pins σ H s := ⟨I.ok.wish E, I.os, I.bare, I.base, I.loc, I.cell, I.free, I.freeC, I.pin, I.hok, I.len⟩
theorem Inv.unwish (I : Inv (X.wish E) pins σ H s) : Inv X pins σ H s := ⟨I.ok.unwish, I.os, I.bare, I.base, I.loc, I.cell, I.free, I.freeC, I.pin, I.hok, I.len⟩
theorem SP.unwish {D : Ends} {f : Flow} {s' : Shared} (h : SP (X.wish E) pins D f s') : SP X pins D f s' := by
  cases f with
  | next => obtain ⟨σ', H', I, q⟩ := h; exact ⟨σ', H', I.unwish, q⟩
  | brk => obtain ⟨σ', H', I, q⟩ := h; exact ⟨σ', H', I.unwish, q⟩
  | cont => obtain ⟨σ', H', I, q⟩ := h; exact ⟨σ', H', I.unwish, q⟩
  | ret u => obtain ⟨v, σ', H', I, r, q⟩ := h; exact ⟨v, σ', H', I.unwish, r, q⟩
theorem PE.nox {e : Expr} {t : TE} (h : PE X.nox e t) : PE X e t := fun pins s σ H Q I hw =>
  wpAny_mono (h pins s σ H Q (I.wish _) hw) (fun _ _ ⟨v, H', I', r, q⟩ => ⟨v, H', I'.unwish, r, q⟩) fun _ _ z => False.elim z
theorem PT.nox {e : Expr} {t : TT} (h : PT X.nox e t) : PT X e t := fun pins s σ H Q I hw =>
  wpAny_mono (h pins s σ H Q (I.wish _) hw) (fun _ _ ⟨H', I', q⟩ => ⟨H', I'.unwish, q⟩) fun _ _ z => False.elim z
theorem PSs.nox {st : List Stmt} {t : TS} (h : PSs X.nox st t) : PSs X st t := fun pins s σ H D I hw =>
  wpAny_mono (h pins s σ H D (I.wish _) hw) (fun _ _ q => q.unwish) fun _ _ z => False.elim z
end
section
variable {X : Cx} {st : Stmt} {rest : List Stmt} {t u : TS} {e : Expr} {te : TE} {pos : Pos}
def tNext : TS := fun D σ H => D.nx σ H
def tSeq (t u : TS) : TS := fun D σ H => t { D with nx := u D } σ H
theorem pss_nil : PSs X [] tNext := fun _ _ σ H _ I h => wpAny_execs_nil ⟨σ, H, I, h⟩
theorem pss_cons (h1 : PS X st t) (h2 : PSs X rest u) : PSs X (st :: rest) (tSeq t u) := by
  intro pins s σ H D I h
  refine wpAny_execs_cons (thn (h1 pins s σ H { D with nx := u D } I h) fun f s1 q => ?_)
  cases f with
  | next =>
    obtain ⟨σ', H', I', q⟩ := q
    exact h2 pins s1 σ' H' D I' q
  | ret v => exact q
  | brk => exact q
  | cont => exact q
theorem pss_one (h1 : PS X st t) : PSs X [st] t := by
  intro pins s σ H D I h
  refine wpAny_execs_cons (thn (h1 pins s σ H D I h) fun f s1 q => ?_)
  cases f with
  | next => exact wpAny_execs_nil q
  | ret v => exact q
  | brk => exact q
  | cont => exact q
def tBreak : TS := fun D σ H => D.bk σ H
def tCont : TS := fun D σ H => D.ct σ H
theorem Inv.quiet {pins : List (Addr × Obj)} {σ : St} {H : Hp} {s : Shared} (I : Inv X pins σ H s) : interactive X.env = false := by simp [interactive, I.ok.kind]
def tDrop (te : TE) : TS := fun D σ H => te σ H fun _ H1 => D.nx σ H1
theorem ps_expr (he : PE X e te) (hs : swapsWith e none pos.line X.env = pure false := by rfl) : PS X (.Expr e pos) (tDrop te) := by
  intro pins s σ H D I h
  exact wpAny_Expr_any (thn (he pins s σ H _ I h) fun v s1 ⟨x, H1, I1, r1, q1⟩ => ⟨σ, H1, I1, q1⟩) I.quiet hs
def tRet (te : TE) : TS := fun D σ H => te σ H D.rt
theorem ps_ret (he : PE X e te) : PS X (.Return (some e) pos) (tRet te) := by
  intro pins s σ H D I h
  exact wpAny_Return_some (thn (he pins s σ H _ I h) fun v s1 ⟨x, H1, I1, r1, q1⟩ => ⟨x, σ, H1, I1, r1, q1⟩)
def tRetN : TS := fun D _ H => D.rt .non H
def tIfS (c : TT) (t u : TS) : TS := fun D σ H => c σ H fun b H1 => if b = true then t D σ H1 else u D σ H1
theorem ps_if {c : Expr} {a b : List Stmt} {tc : TT} (hc : PT X c tc) (ha : PSs X a t) (hb : PSs X b u) : PS X (.If c a b pos) (tIfS tc t u) := by
  intro pins s σ H D I h
  refine wpAny_If (thn (hc pins s σ H _ I h) fun d s1 ⟨H1, I1, q1⟩ => ?_)
  cases d with
  | true => exact ha pins s1 σ H1 D I1 q1
  | false => exact hb pins s1 σ H1 D I1 q1
def tNever : TS := fun _ _ _ => False
theorem ps_never : PS X st tNever := fun _ _ _ _ _ _ h => h.elim
end
abbrev TG := V → St → Hp → (St → Hp → Prop) → Prop
abbrev TGs := List V → St → Hp → (St → Hp → Prop) → Prop
def PG (X : Cx) (target : Expr) (t : TG) : Prop :=
  ∀ (pins : List (Addr × Obj)) (s : Shared) (σ : St) (H : Hp) (v : V) (u : Value) (Q : St → Hp → Prop), Inv X pins σ H s → RelV v u → t v σ H Q →
    wpAny (model X.prog X.w) X.A (assign target X.env u) (fun _ s' => ∃ σ' H', Inv X pins σ' H' s' ∧ Q σ' H') X.xe s
def PGs (X : Cx) (ts : List Expr) (t : TGs) : Prop :=
  ∀ (pins : List (Addr × Obj)) (s : Shared) (σ : St) (H : Hp) (vs : List V) (us : List Value) (Q : St → Hp → Prop), Inv X pins σ H s → Vals vs us → t vs σ H Q →
    wpAny (model X.prog X.w) X.A (assignInOrder ((assignEach ts X.env).map (·.2)) us) (fun _ s' => ∃ σ' H', Inv X pins σ' H' s' ∧ Q σ' H') X.xe s
abbrev TSet := V → V → V → Hp → (Hp → Prop) → Prop
def PSet (X : Cx) (t : TSet) : Prop :=
  ∀ (pins : List (Addr × Obj)) (s : Shared) (σ : St) (H : Hp) (o i v : V) (ov iv u : Value) (Q : Hp → Prop), Inv X pins σ H s → RelV o ov → RelV i iv → RelV v u → t o i v H Q →
    wpAny (model X.prog X.w) X.A (setItem ov iv u) (fun _ s' => ∃ H', Inv X pins σ H' s' ∧ Q H') X.xe s
abbrev TIp := V → V → Hp → VK → Prop
def PIp (X : Cx) (op : Operator) (t : TIp) : Prop :=
  ∀ (pins : List (Addr × Obj)) (s : Shared) (σ : St) (H : Hp) (x y : V) (v u : Value) (Q : VK), Inv X pins σ H s → RelV x v → RelV y u → t x y H Q →
    wpAny (model X.prog X.w) X.A (inplaceOp op v u) (EP X pins σ Q) X.xe s
section
variable {X : Cx} {pos : Pos}
def gName (i : Nat) : TG := fun v σ H Q => Q (σ.set i (some v)) H
theorem pg_name {i : Nat} {x : Str} (hN : X.N.Nodup) (hi : X.N[i]? = some x) (hx : Loc X.env.scope x) (hf : X.fn x = true ∨ X.env.scope.names.lookup x = some .local := by first | exact .inl rfl | exact .inr rfl | assumption) : PG X (.Name x pos) (gName i) := by
  intro pins s σ H v u Q I r h
  exact wpAny_assign_Name (store_ok I hN hi hx r (fun s' I' => ⟨_, H, I', h⟩) hf)
def gNil : TGs := fun vs σ H Q => vs = [] ∧ Q σ H
def gCons (t : TG) (u : TGs) : TGs := fun vs σ H Q => ∃ v r, vs = v :: r ∧ t v σ H fun σ' H' => u r σ' H' Q
theorem pgs_nil : PGs X [] gNil := by
  intro pins s σ H vs us Q I r h
  obtain ⟨e, h⟩ := h
  subst e
  cases r
  exact assignInOrder_nil ⟨σ, H, I, h⟩
theorem pgs_cons {e : Expr} {es : List Expr} {t : TG} {u : TGs} (h1 : PG X e t) (h2 : PGs X es u)
    (hs : (assignEach (e :: es) X.env).map (·.2) = assign e X.env :: (assignEach es X.env).map (·.2) := by rfl) : PGs X (e :: es) (gCons t u) := by
  intro pins s σ H vs us Q I r h
  obtain ⟨v, vr, e1, h⟩ := h
  subst e1
  cases r with
  | cons r rr =>
    rw [hs]
    refine assignInOrder_cons (thn (h1 pins s σ H _ _ _ I r h) fun _ s1 ⟨σ1, H1, I1, q1⟩ => ?_)
    exact h2 pins s1 σ1 H1 _ _ Q I1 rr q1
def gTup (K : PySem.W.Frag) (n : Nat) (t : TGs) : TG := fun v σ H Q => ∃ a xs, v = .ref a ∧ SqT K H a xs ∧ xs.length = n ∧ t xs σ H Q
theorem pg_tup {es : List Expr} {k : Nat} {t : TGs} {n : Nat} (hc : X.calm = true) (h : PGs X es t)
    (hn : (assignEach es X.env).length = n := by rfl) (hst : (assignEach es X.env).findIdx? (·.1) = none := by rfl) : PG X (.Tuple es k pos) (gTup X.K n t) := by
  intro pins s σ H v u Q I r hw
  obtain ⟨a, xs, e1, hq, hl, hw⟩ := hw
  subst e1
  cases r
  obtain ⟨its, rv, ht, hz⟩ := I.tuple hq
  refine assign_Tuple_tuple (I.ok.hd hc) ht (by simp [hn, ← hl, rv.length]) hst fun h' hx => ?_
  have I1 : Inv X pins σ H { s with heap := h' } := I.kept (t' := s.toks) fun b o e => hx b o (Nat.ne_of_lt (Heap.lt_size e)) e
  exact h pins _ σ H xs _ Q I1 (by simpa using rv) hw
def gSub (to ti : TE) (t : TSet) : TG := fun v σ H Q => to σ H fun o H1 => ti σ H1 fun i H2 => t o i v H2 fun H3 => Q σ H3
def tAsg (te : TE) (g : TG) : TS := fun D σ H => te σ H fun x H1 => g x σ H1 D.nx
theorem ps_set {i : Nat} {x : Str} {e : Expr} {te : TE} {pos' : Pos} (hN : X.N.Nodup) (hi : X.N[i]? = some x) (hx : Loc X.env.scope x) (he : PE X e te) (hs : swapsWith e (some (.Name x pos')) pos.line X.env = pure false := by rfl) (hf : X.fn x = true ∨ X.env.scope.names.lookup x = some .local := by first | exact .inl rfl | exact .inr rfl | assumption) :
    PS X (.Assign [.Name x pos'] e pos) (tAsg te (gName i)) := by
  intro pins s σ H D I h
  refine wpAny_Assign_Name (thn (he pins s σ H _ I h) fun v s1 ⟨y, H1, I1, r1, q1⟩ => ?_) hs
  exact store_ok I1 hN hi hx r1 (fun s2 I2 => ⟨_, H1, I2, q1⟩) hf
def tPar (i j : Nat) (ta : TA) : TS := fun D σ H => ta σ H fun vs H1 => ∃ v w, vs = [v, w] ∧ D.nx ((σ.set i (some v)).set j (some w)) H1
def tAug (i : Nat) (te : TE) (ti : TIp) : TS := fun D σ H => ∃ x, σ[i]? = some (some x) ∧ te σ H fun y H1 => ti x y H1 fun z H2 => D.nx (σ.set i (some z)) H2
def tAugS (to ti te : TE) (tget : V → V → Hp → VK → Prop) (tip : TIp) (tset : TSet) : TS := fun D σ H => to σ H fun o H1 => ti σ H1 fun i H2 => tget o i H2 fun x H3 => te σ H3 fun y H4 => tip x y H4 fun z H5 => tset o i z H5 fun H6 => D.nx σ H6
def PGet (X : Cx) (t : V → V → Hp → VK → Prop) : Prop :=
  ∀ (pins : List (Addr × Obj)) (s : Shared) (σ : St) (H : Hp) (o i : V) (ov iv : Value) (Q : VK), Inv X pins σ H s → RelV o ov → RelV i iv → t o i H Q →
    wpAny (model X.prog X.w) X.A (getItem ov iv) (EP X pins σ Q) X.xe s
def ipI (f : Int → Int → Int) : TIp := fun x y H Q => ∃ i j, x = .int i ∧ y = .int j ∧ Q (.int (f i j)) H
end
section
variable {X : Cx} {pos : Pos}
def tWhile (c : TT) (tb : TS) : TS := fun D σ H => ∃ W : Nat → St → Hp → Prop, (∃ m, W m σ H) ∧ ∀ m σ H, W m σ H →
  c σ H fun b H1 => if b = true then ∃ N : St → Hp → Prop, (∀ σ' H', N σ' H' → ∃ m', m' < m ∧ W m' σ' H') ∧ tb { D with nx := N, ct := N, bk := D.nx } σ H1 else D.nx σ H1
end
structure It where
  go : Nat → Hp → Prop
  yld : Nat → Hp → V → Hp → Prop
  stop : Nat → Hp → Prop
def FpOk (X : Cx) (pins : List (Addr × Obj)) (H : Hp) (b : Addr) : Prop :=
  H b = none ∧ b ≠ X.env.locals ∧ b ∉ X.fs ∧ (b ∈ X.ex ∨ X.s₀.heap.objs.size ≤ b) ∧ (∀ x c, X.env.cells.lookup x = some c → c ≠ b) ∧ ∀ p ∈ X.pn ++ pins, p.1 ≠ b
theorem Inv.fpOk {X : Cx} {pins : List (Addr × Obj)} {σ : St} {H H' : Hp} {s : Shared} {b : Addr} (I : Inv X pins σ H s) (hb : s.heap.objs.size ≤ b) (hn : H' b = none) : FpOk X pins H' b := by
  refine ⟨hn, Nat.ne_of_gt (Nat.lt_of_lt_of_le I.lt hb), I.nofs hb, .inr (Nat.le_trans I.sz hb), fun x c e z => ?_, fun p hp z => ?_⟩
  · obtain ⟨v, q⟩ := I.cell x c e
    exact absurd (Nat.lt_of_lt_of_le q.lt (by rw [z]; exact hb)) (Nat.lt_irrefl _)
  · exact absurd (Nat.lt_of_lt_of_le (Heap.lt_size (I.pin p hp).1) (by rw [z]; exact hb)) (Nat.lt_irrefl _)
structure Turn (P : Program) (w : World) (K : PySem.W.Frag) (tg : Expr) (J : It) (fp : List Addr) (it : Addr) (tn : Nat → Heap → Prop) : Prop where
  mem : it ∈ fp
  obj : ∀ i h, tn i h → ∀ b ∈ fp, ∃ o, h.get? b = some o ∧ ∀ v, o.data ≠ .cell v
  keep : ∀ i h h', tn i h → (∀ b ∈ fp, ∀ o, h.get? b = some o → h'.get? b = some o) → tn i h'
  item : ∀ (X : Cx), X.prog = P → X.w = w → X.K = K → X.calm = true → ∀ (i : Nat) (pins : List (Addr × Obj)) (s : Shared) (σ : St) (H : Hp) (E : Value → Shared → Prop), Inv X pins σ H s → (∀ b ∈ fp, FpOk X pins H b) → tn i s.heap → J.go i H →
    wpAny (model P w) X.A (pyNext (.ref it)) (fun r s1 => ∃ u, r = some u ∧
      wpAny (model P w) X.A (letOwnedTupleGo tg (.ref it) u) (fun _ s2 => ∃ x H', Inv X pins σ H' s2 ∧ RelV x u ∧ J.yld i H x H' ∧ tn (i + 1) s2.heap ∧ ∀ b ∈ fp, H' b = none) E s1) E s
  done : ∀ (X : Cx), X.prog = P → X.w = w → X.K = K → X.calm = true → ∀ (i : Nat) (pins : List (Addr × Obj)) (s : Shared) (σ : St) (H : Hp) (E : Value → Shared → Prop), Inv X pins σ H s → (∀ b ∈ fp, FpOk X pins H b) → tn i s.heap → J.stop i H →
    wpAny (model P w) X.A (pyNext (.ref it)) (fun r s1 => r = none ∧ Inv X pins σ H s1) E s
  self : ∀ (A : Around) (i : Nat) (s : Shared) (Q : Value → Shared → Prop) (E : Value → Shared → Prop), tn i s.heap → Q (.ref it) s → wpAny (model P w) A (pyIter (.ref it)) Q E s
abbrev TI := St → Hp → (It → Hp → Prop) → Prop
def PIE (X : Cx) (pins : List (Addr × Obj)) (σ : St) (tg : Expr) (R : It → Hp → Prop) (itv : Value) (s2 : Shared) : Prop :=
  ∃ (it : Addr) (fp : List Addr) (tn : Nat → Heap → Prop) (J : It) (H' : Hp), itv = .ref it ∧ Inv X pins σ H' s2 ∧ Turn X.prog X.w X.K tg J fp it tn ∧ tn 0 s2.heap ∧ (∀ b ∈ fp, FpOk X pins H' b) ∧ R J H'
def PI (X : Cx) (tg iter : Expr) (wi : TI) : Prop :=
  ∀ (pins : List (Addr × Obj)) (s : Shared) (σ : St) (H : Hp) (R : It → Hp → Prop), Inv X pins σ H s → wi σ H R →
    wpAny (model X.prog X.w) X.A (eval iter X.env) (fun v s1 => wpAny (model X.prog X.w) X.A (pyIter v) (PIE X pins σ tg R) X.xe s1) X.xe s
theorem go_of {M : Model} {A : Around} {E : Value → Shared → Prop} {s : Shared} {tg : Expr} {it : Addr} {u : Value} {o : Obj} {n : String} {vs : Array Value} {Q : Unit → Shared → Prop} (ho : s.heap.get? it = some o) (hc : o.cls = .type n) (hd : o.data = .fields vs)
    (hn : ["enumerate", "zip", "dict_itemiterator", "dict_reverseitemiterator", "odict_iterator", "itertools.zip_longest", "itertools.pairwise"].contains n = false) (hQ : Q () s) : wpAny M A (letOwnedTupleGo tg (.ref it) u) Q E s := by
  unfold letOwnedTupleGo
  cases tg <;> first
    | exact wpAny_pure hQ
    | (cases u <;> first
        | exact wpAny_pure hQ
        | (refine wpAny_bind (wpAny_load ho ?_)
           rw [hc, hd]
           show wpAny M A (if (["enumerate", "zip", "dict_itemiterator", "dict_reverseitemiterator", "odict_iterator", "itertools.zip_longest", "itertools.pairwise"].contains n && vs[0]? == some (rawInt _)) = true then _ else _) Q E s
           rw [if_neg (by intro h; rw [hn, Bool.false_and] at h; cases h)]
           exact wpAny_pure hQ))
def Itl (K : PySem.W.Frag) (a : Addr) : It :=
  ⟨fun i H => ∃ xs x, SqL K H a xs ∧ xs[i]? = some x, fun i H x H' => H' = H ∧ ∀ xs, SqL K H a xs → xs[i]? = some x, fun i H => ∃ xs, SqL K H a xs ∧ xs.length ≤ i⟩
def Itt (K : PySem.W.Frag) (a : Addr) : It :=
  ⟨fun i H => ∃ xs x, SqT K H a xs ∧ xs[i]? = some x, fun i H x H' => H' = H ∧ ∀ xs, SqT K H a xs → xs[i]? = some x, fun i H => ∃ xs, SqT K H a xs ∧ xs.length ≤ i⟩
def Itr (lo : Int) (n : Nat) : It := ⟨fun i _ => i < n, fun i H x H' => H' = H ∧ x = .int (lo + i), fun i _ => n ≤ i⟩
theorem turn_list {P : Program} {w : World} {K : PySem.W.Frag} {tg : Expr} (a it : Addr) : Turn P w K tg (Itl K a) [it] it (fun i h => h.IsListIter it a i) where
  mem := by simp
  obj := fun i h st b hb => by
    have e : b = it := by simpa using hb
    subst e
    obtain ⟨o, e, c, d⟩ := st
    exact ⟨o, e, fun v z => by rw [d] at z; cases z⟩
  keep := fun i h h' st k => st.at fun o e => k it (by simp) o e
  item := by
    intro X hP hw hK hc i pins s σ H E I hf st hg
    subst hP hw hK
    obtain ⟨xs, x, hq, hx⟩ := hg
    obtain ⟨its, rv, p, hz⟩ := I.list hq
    obtain ⟨u, hu, ru⟩ := rv.get hx
    obtain ⟨f0, f1, f2, f3, f4, f5⟩ := hf it (by simp)
    refine wpAny_pyNext_list_item st p.isList (x := u) (by simpa using hu) fun h' st' sb => ?_
    have I1 : Inv X pins σ H { s with heap := h' } := I.turned (t' := s.toks) (fun b o hb e => (sb.2 b hb).trans e) f0 f1 f3 f4 f5
    obtain ⟨o, e, c, d⟩ := id st'
    exact ⟨u, rfl, go_of (s := { s with heap := h' }) e c d (by decide) ⟨x, H, I1, ru, ⟨rfl, fun ys hy => by rw [I.list_inj hy hq]; exact hx⟩, st', fun b hb => (hf b hb).1⟩⟩
  done := by
    intro X hP hw hK hc i pins s σ H E I hf st hg
    subst hP hw hK
    obtain ⟨xs, hq, hx⟩ := hg
    obtain ⟨its, rv, p, hz⟩ := I.list hq
    obtain ⟨f0, f1, f2, f3, f4, f5⟩ := hf it (by simp)
    have hl := rv.length
    exact wpAny_pyNext_list_end (I.ok.hd hc) st p.isList (by simp; omega) fun h' eb => ⟨rfl, I.turned (t' := s.toks) (fun b o hb e => eb b o hb e) f0 f1 f3 f4 f5⟩
  self := fun _ _ _ _ _ st h => wpAny_pyIter_listiter st h
theorem turn_tuple {P : Program} {w : World} {K : PySem.W.Frag} {tg : Expr} (a it : Addr) : Turn P w K tg (Itt K a) [it] it (fun i h => h.IsTupleIter it a i) where
  mem := by simp
  obj := fun i h st b hb => by
    have e : b = it := by simpa using hb
    subst e
    obtain ⟨o, e, c, d⟩ := st
    exact ⟨o, e, fun v z => by rw [d] at z; cases z⟩
  keep := fun i h h' st k => st.at fun o e => k it (by simp) o e
  item := by
    intro X hP hw hK hc i pins s σ H E I hf st hg
    subst hP hw hK
    obtain ⟨xs, x, hq, hx⟩ := hg
    obtain ⟨its, rv, p, hz⟩ := I.tuple hq
    obtain ⟨u, hu, ru⟩ := rv.get hx
    obtain ⟨f0, f1, f2, f3, f4, f5⟩ := hf it (by simp)
    refine wpAny_pyNext_tuple_item st (show s.heap.IsTuple a its.toArray from p) (x := u) (by simpa using hu) fun h' st' sb => ?_
    have I1 : Inv X pins σ H { s with heap := h' } := I.turned (t' := s.toks) (fun b o hb e => (sb.2 b hb).trans e) f0 f1 f3 f4 f5
    obtain ⟨o, e, c, d⟩ := id st'
    exact ⟨u, rfl, go_of (s := { s with heap := h' }) e c d (by decide) ⟨x, H, I1, ru, ⟨rfl, fun ys hy => by rw [I.tuple_inj hy hq]; exact hx⟩, st', fun b hb => (hf b hb).1⟩⟩
  done := by
    intro X hP hw hK hc i pins s σ H E I hf st hg
    subst hP hw hK
    obtain ⟨xs, hq, hx⟩ := hg
    obtain ⟨its, rv, p, hz⟩ := I.tuple hq
    obtain ⟨f0, f1, f2, f3, f4, f5⟩ := hf it (by simp)
    have hl := rv.length
    exact wpAny_pyNext_tuple_end (I.ok.hd hc) st (show s.heap.IsTuple a its.toArray from p) (by simp; omega) fun h' eb => ⟨rfl, I.turned (t' := s.toks) (fun b o hb e => eb b o hb e) f0 f1 f3 f4 f5⟩
  self := fun _ _ _ _ _ st h => wpAny_pyIter_tupleiter st h
theorem turn_range {P : Program} {w : World} {K : PySem.W.Frag} {tg : Expr} (it : Addr) (lo : Int) (n : Nat) : Turn P w K tg (Itr lo n) [it] it (fun i h => IsRangeIter h it (lo + (i : Nat) * 1) ((n : Int) - (i : Nat)) 1) where
  mem := by simp
  obj := fun i h st b hb => by
    have e : b = it := by simpa using hb
    subst e
    exact ⟨_, st, fun v z => by
      have z' : Data.fields _ = Data.cell v := z
      cases z'⟩
  keep := fun i h h' st k => k it (by simp) _ st
  item := by
    intro X hP hw hK hc i pins s σ H E I hf st hg
    subst hP hw hK
    obtain ⟨f0, f1, f2, f3, f4, f5⟩ := hf it (by simp)
    have W := Walks.range (prog := X.prog) (w := X.w) (I.ok.hd hc) it lo 1 n
    refine W.item i s _ _ hg st fun v h' tk hv st' kk => ?_
    obtain ⟨t, rfl⟩ := hv
    have I1 : Inv X pins σ H { s with heap := h', toks := tk } := I.turned (fun b o hb e => kk b o (by simpa using hb) e) f0 f1 f3 f4 f5
    refine ⟨_, rfl, go_of (s := { s with heap := h', toks := tk }) (n := "range_iterator") st' rfl rfl (by decide) ⟨.int (lo + i), H, I1, ⟨t, ?_⟩, ⟨rfl, rfl⟩, st', fun b hb => (hf b hb).1⟩⟩
    rw [Int.mul_one]
  done := by
    intro X hP hw hK hc i pins s σ H E I hf st hg
    subst hP hw hK
    obtain ⟨f0, f1, f2, f3, f4, f5⟩ := hf it (by simp)
    exact wpAny_pyNext_range_end (I.ok.hd hc) st (by have : n ≤ i := hg; omega) fun h' eb => ⟨rfl, I.turned (t' := s.toks) (fun b o hb e => eb b o hb e) f0 f1 f3 f4 f5⟩
  self := fun _ _ _ _ _ st h => wpAny_pyIter_rangeiter st h
end L2
namespace L2
open PySem PySem.Spec PyProof.Rows
section
variable {X : Cx} {tg : Expr}
def iList (K : PySem.W.Frag) (tl : TE) : TI := fun σ H R => tl σ H fun x H1 => ∃ a, x = .ref a ∧ (∃ xs, SqL K H1 a xs) ∧ R (Itl K a) H1
def iTup (K : PySem.W.Frag) (tl : TE) : TI := fun σ H R => tl σ H fun x H1 => ∃ a, x = .ref a ∧ (∃ xs, SqT K H1 a xs) ∧ R (Itt K a) H1
theorem pi_list {l : Expr} {tl : TE} (hl : PE X l tl) : PI X tg l (iList X.K tl) := by
  intro pins s σ H R I h
  refine thn (hl pins s σ H _ I h) fun v s1 ⟨x, H1, I1, r1, q1⟩ => ?_
  obtain ⟨a, e, ⟨xs, hq⟩, q⟩ := q1
  subst e
  cases r1
  obtain ⟨its, rv, p, hz⟩ := I1.list hq
  refine wpAny_pyIter_list p.isList ?_
  refine ⟨s1.heap.objs.size, [s1.heap.objs.size], _, _, H1, rfl, I1.kept (t' := s1.toks) fun b o e => Heap.get?_push_of_some _ e, turn_list a _, ⟨_, Heap.get?_push_size _ rfl, rfl, rfl⟩, fun b hb => ?_, q⟩
  have e : b = s1.heap.objs.size := by simpa using hb
  subst e
  exact I1.fpOk (Nat.le_refl _) (I1.hok.fresh (Nat.le_refl _))
theorem pi_tup {l : Expr} {tl : TE} (hl : PE X l tl) : PI X tg l (iTup X.K tl) := by
  intro pins s σ H R I h
  refine thn (hl pins s σ H _ I h) fun v s1 ⟨x, H1, I1, r1, q1⟩ => ?_
  obtain ⟨a, e, ⟨xs, hq⟩, q⟩ := q1
  subst e
  cases r1
  obtain ⟨its, rv, p, hz⟩ := I1.tuple hq
  refine wpAny_pyIter_tuple (show s1.heap.IsTuple a its.toArray from p) ?_
  refine ⟨s1.heap.objs.size, [s1.heap.objs.size], _, _, H1, rfl, I1.kept (t' := s1.toks) fun b o e => Heap.get?_push_of_some _ e, turn_tuple a _, ⟨_, Heap.get?_push_size _ rfl, rfl, rfl⟩, fun b hb => ?_, q⟩
  have e : b = s1.heap.objs.size := by simpa using hb
  subst e
  exact I1.fpOk (Nat.le_refl _) (I1.hok.fresh (Nat.le_refl _))
theorem range_it {pins : List (Addr × Obj)} {σ : St} {H : Hp} {s : Shared} {R : It → Hp → Prop} {E : Value → Shared → Prop} {lo hi : Int} {t u v : Tok} {tk : Nat} (I : Inv X pins σ H s) (h1 : -(2 ^ 62) ≤ lo) (h2 : lo < 2 ^ 62) (h3 : -(2 ^ 62) ≤ hi) (h4 : hi < 2 ^ 62)
    (q : R (Itr lo (hi - lo).toNat) H) : wpAny (model X.prog X.w) X.A (pyIter (.ref s.heap.objs.size)) (PIE X pins σ tg R) E { s with heap := s.heap.push { cls := .type "range", data := .fields #[.int lo t, .int hi u, .int 1 v] }, toks := tk } := by
  refine wpAny_pyIter_range (IsRange.new ..) (small_one h1 h2 h3 h4) ?_
  have I1 : Inv X pins σ H { s with heap := s.heap.push { cls := .type "range", data := .fields #[.int lo t, .int hi u, .int 1 v] }, toks := tk } := I.kept fun b o e => Heap.get?_push_of_some _ e
  refine ⟨(s.heap.push { cls := .type "range", data := .fields #[.int lo t, .int hi u, .int 1 v] }).objs.size, [(s.heap.push { cls := .type "range", data := .fields #[.int lo t, .int hi u, .int 1 v] }).objs.size], _, _, H, rfl,
    I1.kept (t' := tk) fun b o e => Heap.get?_push_of_some _ e, turn_range _ lo (hi - lo).toNat, ?_, fun b hb => ?_, q⟩
  · have e1 : lo + ((0 : Nat) : Int) * 1 = lo := by simp
    have e2 : (((hi - lo).toNat : Nat) : Int) - ((0 : Nat) : Int) = Builtin.Range.rangeSize lo hi 1 := by rw [rangeSize_one]; split <;> omega
    show IsRangeIter _ _ (lo + ((0 : Nat) : Int) * 1) ((((hi - lo).toNat : Nat) : Int) - ((0 : Nat) : Int)) 1
    rw [e1, e2]
    exact Heap.get?_push_size _ rfl
  · have e : b = (s.heap.push { cls := .type "range", data := .fields #[.int lo t, .int hi u, .int 1 v] }).objs.size := by simpa using hb
    subst e
    exact I1.fpOk (Nat.le_refl _) (I1.hok.fresh (Nat.le_refl _))
def iRng1 (ta : TA) : TI := fun σ H R => ta σ H fun vs H1 => ∃ j : Int, vs = [.int j] ∧ -(2 ^ 62) ≤ j ∧ j < 2 ^ 62 ∧ R (Itr 0 j.toNat) H1
def iRng2 (ta : TA) : TI := fun σ H R => ta σ H fun vs H1 => ∃ i j : Int, vs = [.int i, .int j] ∧ (-(2 ^ 62) ≤ i ∧ i < 2 ^ 62 ∧ -(2 ^ 62) ≤ j ∧ j < 2 ^ 62) ∧ R (Itr i (j - i).toNat) H1
theorem pi_range1 {a : Expr} {ta : TA} {p pos : Pos} (hg : Gl X "range") (hm : X.mg "range" = none) (ha : PA X [a] ta) (hs : starEach [a] X.env = [(false, eval a X.env)] := by rfl) : PI X tg (.Call (.Name "range" p) [a] [] pos) (iRng1 ta) := by
  intro pins s σ H R I h
  refine Call_ (ld_blt I hg hm boot_range (PyProof.Rows.callWith_type1 (thn (ha pos pins s σ H _ I h) fun us s1 ⟨vs, H1, I1, r1, q1⟩ => ?_) hs rfl))
  obtain ⟨j, e, q1, q2, q⟩ := q1
  subst e
  cases r1 with
  | cons r rr =>
    cases rr
    obtain ⟨t, rfl⟩ := r
    exact call_range_1 (range_it I1 (by omega) (by omega) q1 q2 (by simpa using q))
theorem pi_range2 {a b : Expr} {ta : TA} {p pos : Pos} (hg : Gl X "range") (hm : X.mg "range" = none) (ha : PA X [a, b] ta) (hs : starEach [a, b] X.env = [(false, eval a X.env), (false, eval b X.env)] := by rfl) (hs2 : starEach [b] X.env = [(false, eval b X.env)] := by rfl) :
    PI X tg (.Call (.Name "range" p) [a, b] [] pos) (iRng2 ta) := by
  intro pins s σ H R I h
  refine Call_ (ld_blt I hg hm boot_range (PyProof.Rows.callWith_type1 (thn (ha pos pins s σ H _ I h) fun us s1 ⟨vs, H1, I1, r1, q1⟩ => ?_) (by rw [hs, hs2]) (by rw [hs2]; rfl)))
  obtain ⟨i, j, e, ⟨q1, q2, q3, q4⟩, q⟩ := q1
  subst e
  cases r1 with
  | cons r rr =>
    cases rr with
    | cons r' rr =>
      cases rr
      obtain ⟨t, rfl⟩ := r
      obtain ⟨t', rfl⟩ := r'
      exact call_range_2 (range_it I1 q1 q2 q3 q4 q)
def tFor (wi : TI) (g : TG) (tb : TS) : TS := fun D σ H => wi σ H fun J H1 => ∃ W : Nat → Nat → St → Hp → Prop, (∃ m, W 0 m σ H1) ∧ ∀ i m σ H, W i m σ H →
  (J.stop i H ∧ D.nx σ H) ∨ (J.go i H ∧ ∃ N : St → Hp → Prop, (∀ σ' H', N σ' H' → ∃ m', m' < m ∧ W (i + 1) m' σ' H') ∧ ∀ x H', J.yld i H x H' → g x σ H' fun σ2 H2 => tb { D with nx := N, ct := N, bk := D.nx } σ2 H2)
def pinsAt (fp : List Addr) (h : Heap) : List (Addr × Obj) := fp.filterMap fun b => (h.get? b).map fun o => (b, o)
theorem mem_pinsAt {fp : List Addr} {h : Heap} {b : Addr} {o : Obj} (hb : b ∈ fp) (e : h.get? b = some o) : (b, o) ∈ pinsAt fp h := List.mem_filterMap.mpr ⟨b, hb, by rw [e]; rfl⟩
theorem of_pinsAt {fp : List Addr} {h : Heap} {p : Addr × Obj} (hp : p ∈ pinsAt fp h) : p.1 ∈ fp ∧ h.get? p.1 = some p.2 := by
  obtain ⟨b, hb, e⟩ := List.mem_filterMap.mp hp
  cases q : h.get? b with
  | none => rw [q] at e; cases e
  | some o =>
    rw [q] at e
    have e' : (b, o) = p := Option.some.inj e
    subst e'
    exact ⟨hb, q⟩
theorem Inv.pinned {pins : List (Addr × Obj)} {σ : St} {H : Hp} {s : Shared} {fp : List Addr} (I : Inv X pins σ H s) (hf : ∀ b ∈ fp, FpOk X pins H b) (ho : ∀ b ∈ fp, ∃ o, s.heap.get? b = some o ∧ ∀ v, o.data ≠ .cell v) : Inv X (pins ++ pinsAt fp s.heap) σ H s :=
  I.pins_of fun p hp => (List.mem_append.mp hp).elim (fun z => I.pin p (List.mem_append_right _ z)) fun z => by
    obtain ⟨hb, e⟩ := of_pinsAt z
    obtain ⟨f0, f1, f2, _⟩ := hf p.1 hb
    obtain ⟨o, e', d⟩ := ho p.1 hb
    rw [e] at e'; cases e'
    exact ⟨e, f0, f1, f2, d⟩
theorem Inv.unpinned {pins pl : List (Addr × Obj)} {σ : St} {H : Hp} {s : Shared} (I : Inv X (pins ++ pl) σ H s) : Inv X pins σ H s := I.pins_of fun p hp => I.pin p (List.mem_append_right _ (List.mem_append_left _ hp))
theorem ps_for {iter : Expr} {body : List Stmt} {wi : TI} {g : TG} {tb : TS} {pos : Pos} (hp : PassesOwn (model X.prog X.w) X.A X.env X.xe) (hc : X.calm = true) (hi : PI X tg iter wi) (hg : PG X tg g) (hb : PSs X body tb)
    (hs : ∀ x, foldedSetIterable iter X.env x = pure x := by intro _; rfl) : PS X (.For tg iter body [] pos) (tFor wi g tb) := by
  intro pins s σ H D I h
  refine wpAny_For (thn (hi pins s σ H _ I h) fun v s1 h1 => thn h1 fun itv s2 h2 => ?_) hs
  obtain ⟨it, fp, tn, J, H2, e, I2, T, st2, f2, W, ⟨m0, w0⟩, turn⟩ := h2
  subst e
  have stat : ∀ {H' : Hp}, (∀ b ∈ fp, H' b = none) → ∀ b ∈ fp, FpOk X pins H' b := fun hn b hb => ⟨hn b hb, (f2 b hb).2⟩
  refine codeAny_forLoop_any (fun n s' => ∃ i σ' H', Inv X pins σ' H' s' ∧ tn i s'.heap ∧ (∀ b ∈ fp, H' b = none) ∧ W i n σ' H') ?_ m0 ⟨0, σ, H2, I2, st2, fun b hb => (f2 b hb).1, w0⟩
  rintro n s3 ⟨i, σ3, H3, I3, st3, fr3, w3⟩
  rcases turn i n σ3 H3 w3 with ⟨stop, qn⟩ | ⟨go, N, hN, step⟩
  · refine wpAny_passesOwn hp (thn (T.done X rfl rfl rfl hc i pins s3 σ3 H3 X.xe I3 (stat fr3) st3 stop) fun r s4 ⟨hr, I4⟩ => ?_)
    subst hr
    exact wpAny_execs_nil ⟨σ3, H3, I4, qn⟩
  · refine wpAny_passesOwn hp (thn (T.item X rfl rfl rfl hc i pins s3 σ3 H3 X.xe I3 (stat fr3) st3 go) fun r s4 ⟨u, hr, h4⟩ => ?_)
    subst hr
    refine wpAny_passesOwn hp (thn h4 fun _ s5 ⟨x, H5, I5, r5, y5, st5, fr5⟩ => ?_)
    have I5' := I5.pinned (stat fr5) (T.obj _ _ st5)
    refine wpAny_passesOwn hp (thn (hg _ s5 σ3 H5 x u _ I5' r5 (step x H5 y5)) fun _ s6 ⟨σ6, H6, I6, q6⟩ => ?_)
    refine wpAny_passesOwn hp (thn (hb _ s6 σ6 H6 _ I6 q6) fun f s7 q7 => ?_)
    have again : ∀ {σ7 : St} {H7 : Hp}, Inv X (pins ++ pinsAt fp s5.heap) σ7 H7 s7 → N σ7 H7 → ∃ m, m < n ∧ ∃ i σ' H', Inv X pins σ' H' s7 ∧ tn i s7.heap ∧ (∀ b ∈ fp, H' b = none) ∧ W i m σ' H' := fun {σ7 H7} I7 n7 => by
      obtain ⟨m', hm, w7⟩ := hN σ7 H7 n7
      refine ⟨m', hm, i + 1, σ7, H7, I7.unpinned, T.keep _ _ _ st5 fun b hb o e => (I7.pin (b, o) (List.mem_append_right _ (List.mem_append_right _ (mem_pinsAt hb e)))).1, fun b hb => ?_, w7⟩
      obtain ⟨o, e, d⟩ := T.obj _ _ st5 b hb
      exact (I7.pin (b, o) (List.mem_append_right _ (List.mem_append_right _ (mem_pinsAt hb e)))).2.1
    cases f with
    | next => obtain ⟨σ7, H7, I7, n7⟩ := q7; exact again I7 n7
    | cont => obtain ⟨σ7, H7, I7, n7⟩ := q7; exact again I7 n7
    | brk => obtain ⟨σ7, H7, I7, q7⟩ := q7; exact ⟨σ7, H7, I7.unpinned, q7⟩
    | ret v => obtain ⟨x7, σ7, H7, I7, r7, q7⟩ := q7; exact ⟨x7, σ7, H7, I7.unpinned, r7, q7⟩
end
theorem for_list {K : PySem.W.Frag} {a : Addr} {xs : List V} {g : TG} {tb : TS} {D : Ends} {σ : St} {H : Hp} (Pv : Nat → St → Hp → Prop) (h0 : Pv 0 σ H) (hl : ∀ i σ H, i ≤ xs.length → Pv i σ H → SqL K H a xs)
    (hs : ∀ i x σ H, xs[i]? = some x → Pv i σ H → g x σ H fun σ2 H2 => tb { D with nx := Pv (i + 1), ct := Pv (i + 1), bk := D.nx } σ2 H2) (hd : ∀ σ H, Pv xs.length σ H → D.nx σ H) :
    ∃ W : Nat → Nat → St → Hp → Prop, (∃ m, W 0 m σ H) ∧ ∀ i m σ H, W i m σ H →
      ((Itl K a).stop i H ∧ D.nx σ H) ∨ ((Itl K a).go i H ∧ ∃ N : St → Hp → Prop, (∀ σ' H', N σ' H' → ∃ m', m' < m ∧ W (i + 1) m' σ' H') ∧ ∀ x H', (Itl K a).yld i H x H' → g x σ H' fun σ2 H2 => tb { D with nx := N, ct := N, bk := D.nx } σ2 H2) := by
  refine ⟨fun i m σ H => m = xs.length - i ∧ i ≤ xs.length ∧ Pv i σ H, ⟨xs.length, by simp, Nat.zero_le _, h0⟩, ?_⟩
  rintro i m σ H ⟨rfl, hi, p⟩
  have q := hl i σ H hi p
  by_cases hlt : i < xs.length
  · refine .inr ⟨⟨xs, xs[i], q, by simp [hlt]⟩, Pv (i + 1), fun σ' H' p' => ⟨xs.length - (i + 1), by omega, rfl, hlt, p'⟩, fun x H' y => ?_⟩
    obtain ⟨e, y⟩ := y
    subst e
    exact hs i x σ _ (y xs q) p
  · have e : i = xs.length := by omega
    subst e
    exact .inl ⟨⟨xs, q, Nat.le_refl _⟩, hd σ H p⟩
theorem for_tup {K : PySem.W.Frag} {a : Addr} {xs : List V} {g : TG} {tb : TS} {D : Ends} {σ : St} {H : Hp} (Pv : Nat → St → Hp → Prop) (h0 : Pv 0 σ H) (hl : ∀ i σ H, i ≤ xs.length → Pv i σ H → SqT K H a xs)
    (hs : ∀ i x σ H, xs[i]? = some x → Pv i σ H → g x σ H fun σ2 H2 => tb { D with nx := Pv (i + 1), ct := Pv (i + 1), bk := D.nx } σ2 H2) (hd : ∀ σ H, Pv xs.length σ H → D.nx σ H) :
    ∃ W : Nat → Nat → St → Hp → Prop, (∃ m, W 0 m σ H) ∧ ∀ i m σ H, W i m σ H →
      ((Itt K a).stop i H ∧ D.nx σ H) ∨ ((Itt K a).go i H ∧ ∃ N : St → Hp → Prop, (∀ σ' H', N σ' H' → ∃ m', m' < m ∧ W (i + 1) m' σ' H') ∧ ∀ x H', (Itt K a).yld i H x H' → g x σ H' fun σ2 H2 => tb { D with nx := N, ct := N, bk := D.nx } σ2 H2) := by
  refine ⟨fun i m σ H => m = xs.length - i ∧ i ≤ xs.length ∧ Pv i σ H, ⟨xs.length, by simp, Nat.zero_le _, h0⟩, ?_⟩
  rintro i m σ H ⟨rfl, hi, p⟩
  have q := hl i σ H hi p
  by_cases hlt : i < xs.length
  · refine .inr ⟨⟨xs, xs[i], q, by simp [hlt]⟩, Pv (i + 1), fun σ' H' p' => ⟨xs.length - (i + 1), by omega, rfl, hlt, p'⟩, fun x H' y => ?_⟩
    obtain ⟨e, y⟩ := y
    subst e
    exact hs i x σ _ (y xs q) p
  · have e : i = xs.length := by omega
    subst e
    exact .inl ⟨⟨xs, q, Nat.le_refl _⟩, hd σ H p⟩
theorem for_range {lo : Int} {n : Nat} {g : TG} {tb : TS} {D : Ends} {σ : St} {H : Hp} (Pv : Nat → St → Hp → Prop) (h0 : Pv 0 σ H)
    (hs : ∀ i σ H, i < n → Pv i σ H → g (.int (lo + i)) σ H fun σ2 H2 => tb { D with nx := Pv (i + 1), ct := Pv (i + 1), bk := D.nx } σ2 H2) (hd : ∀ σ H, Pv n σ H → D.nx σ H) :
    ∃ W : Nat → Nat → St → Hp → Prop, (∃ m, W 0 m σ H) ∧ ∀ i m σ H, W i m σ H →
      ((Itr lo n).stop i H ∧ D.nx σ H) ∨ ((Itr lo n).go i H ∧ ∃ N : St → Hp → Prop, (∀ σ' H', N σ' H' → ∃ m', m' < m ∧ W (i + 1) m' σ' H') ∧ ∀ x H', (Itr lo n).yld i H x H' → g x σ H' fun σ2 H2 => tb { D with nx := N, ct := N, bk := D.nx } σ2 H2) := by
  refine ⟨fun i m σ H => m = n - i ∧ i ≤ n ∧ Pv i σ H, ⟨n, by simp, Nat.zero_le _, h0⟩, ?_⟩
  rintro i m σ H ⟨rfl, hi, p⟩
  by_cases hlt : i < n
  · refine .inr ⟨hlt, Pv (i + 1), fun σ' H' p' => ⟨n - (i + 1), by omega, rfl, hlt, p'⟩, fun x H' y => ?_⟩
    obtain ⟨e, y⟩ := y
    subst e y
    exact hs i σ _ hlt p
  · have e : i = n := by omega
    subst e
    exact .inl ⟨Nat.le_refl _, hd σ H p⟩
end L2
namespace L2
open PySem PySem.Spec PyProof.Rows
abbrev R2 := V → V → Hp → VK → Prop
def OpR (X : Cx) (f : Value → Value → Sem Value) (r : R2) : Prop :=
  ∀ (pins : List (Addr × Obj)) (s : Shared) (σ : St) (H : Hp) (x y : V) (v u : Value) (Q : VK), Inv X pins σ H s → RelV x v → RelV y u → r x y H Q →
    wpAny (model X.prog X.w) X.A (f v u) (EP X pins σ Q) X.xe s
def UnR (X : Cx) (f : Value → Sem Value) (r : V → Hp → VK → Prop) : Prop :=
  ∀ (pins : List (Addr × Obj)) (s : Shared) (σ : St) (H : Hp) (x : V) (v : Value) (Q : VK), Inv X pins σ H s → RelV x v → r x H Q →
    wpAny (model X.prog X.w) X.A (f v) (EP X pins σ Q) X.xe s
def CallR (X : Cx) (f : Value) (r : List V → Hp → VK → Prop) : Prop :=
  ∀ (pins : List (Addr × Obj)) (s : Shared) (σ : St) (H : Hp) (xs : List V) (us : List Value) (Q : VK), Inv X pins σ H s → Vals xs us → r xs H Q →
    wpAny (model X.prog X.w) X.A (call f us) (EP X pins σ Q) X.xe s
def TruR (X : Cx) (r : V → Hp → (Bool → Hp → Prop) → Prop) : Prop :=
  ∀ (pins : List (Addr × Obj)) (s : Shared) (σ : St) (H : Hp) (x : V) (v : Value) (Q : Bool → Hp → Prop), Inv X pins σ H s → RelV x v → r x H Q →
    wpAny (model X.prog X.w) X.A (truthy v) (TP X pins σ Q) X.xe s
def tOp (r : R2) (ta tb : TE) : TE := fun σ H Q => ta σ H fun x H1 => tb σ H1 fun y H2 => r x y H2 Q
def tUn (r : V → Hp → VK → Prop) (ta : TE) : TE := fun σ H Q => ta σ H fun x H1 => r x H1 Q
def rI (C : Int → Int → Prop) (g : Int → Int → V) : R2 := fun x y H Q => ∃ i j, x = .int i ∧ y = .int j ∧ C i j ∧ Q (g i j) H
def rI0 (g : Int → Int → V) : R2 := fun x y H Q => ∃ i j, x = .int i ∧ y = .int j ∧ Q (g i j) H
def rU (g : Int → V) : V → Hp → VK → Prop := fun x H Q => ∃ i, x = .int i ∧ Q (g i) H
section
variable {X : Cx} {a b c : Expr} {ta tb tc : TE} {pos : Pos}
theorem binT (ha : PE X a ta) (hb : PE X b tb) {pins : List (Addr × Obj)} {s : Shared} {σ : St} {H : Hp} {R : V → V → Hp → Prop} (I : Inv X pins σ H s)
    (h : ta σ H fun x H1 => tb σ H1 fun y H2 => R x y H2) {Q : Value → Shared → Prop} {f : Value → Value → Sem Value}
    (hf : ∀ v u s2 x y H2, Inv X pins σ H2 s2 → RelV x v → RelV y u → R x y H2 → wpAny (model X.prog X.w) X.A (f v u) Q X.xe s2) :
    wpAny (model X.prog X.w) X.A (eval a X.env) (fun v s₁ => wpAny (model X.prog X.w) X.A (eval b X.env) (fun u s₂ => wpAny (model X.prog X.w) X.A (f v u) Q X.xe s₂) X.xe s₁) X.xe s := by
  refine thn (ha pins s σ H _ I h) fun v s1 ⟨x, H1, I1, r1, q1⟩ => ?_
  refine thn (hb pins s1 σ H1 _ I1 q1) fun u s2 ⟨y, H2, I2, r2, q2⟩ => ?_
  exact hf v u s2 x y H2 I2 r1 r2 q2
theorem pe_op {op : Operator} {r : R2} (ho : OpR X (binaryOp op) r) (ha : PE X a ta) (hb : PE X b tb) : PE X (.BinOp a op b pos) (tOp r ta tb) := by
  intro pins s σ H Q I h
  exact wpAny_BinOp (binT ha hb I h fun v u s2 x y H2 I2 rx ry q => ho pins s2 σ H2 x y v u Q I2 rx ry q)
theorem pe_un {op : UnaryOp} {r : V → Hp → VK → Prop} (ho : UnR X (unaryOp op) r) (ha : PE X a ta) : PE X (.UnaryOp op a pos) (tUn r ta) := by
  intro pins s σ H Q I h
  exact UnaryOp_ (thn (ha pins s σ H _ I h) fun v s1 ⟨x, H1, I1, r1, q1⟩ => ho pins s1 σ H1 x v Q I1 r1 q1)
theorem opI {f : Value → Value → Sem Value} {C : Int → Int → Prop} {g : Int → Int → Int}
    (rule : ∀ (i j : Int) (t u : Tok) (s : Shared) (Q : Value → Shared → Prop) (E : Value → Shared → Prop), C i j → Q (.int (g i j) s.toks) { s with toks := s.toks + 1 } → wpAny (model X.prog X.w) X.A (f (.int i t) (.int j u)) Q E s) :
    OpR X f (rI C fun i j => .int (g i j)) := by
  intro pins s σ H x y v u Q I rx ry h
  obtain ⟨i, j, rfl, rfl, hc, q⟩ := h
  obtain ⟨t, rfl⟩ := rx
  obtain ⟨t', rfl⟩ := ry
  exact rule i j t t' s _ _ hc ⟨.int (g i j), H, I.tok _, ⟨_, rfl⟩, q⟩
theorem opI0 {f : Value → Value → Sem Value} {g : Int → Int → Int}
    (rule : ∀ (i j : Int) (t u : Tok) (s : Shared) (Q : Value → Shared → Prop) (E : Value → Shared → Prop), Q (.int (g i j) s.toks) { s with toks := s.toks + 1 } → wpAny (model X.prog X.w) X.A (f (.int i t) (.int j u)) Q E s) :
    OpR X f (rI0 fun i j => .int (g i j)) := by
  intro pins s σ H x y v u Q I rx ry h
  obtain ⟨i, j, rfl, rfl, q⟩ := h
  obtain ⟨t, rfl⟩ := rx
  obtain ⟨t', rfl⟩ := ry
  exact rule i j t t' s _ _ ⟨.int (g i j), H, I.tok _, ⟨_, rfl⟩, q⟩
theorem opB0 {f : Value → Value → Sem Value} {g : Int → Int → Bool}
    (rule : ∀ (i j : Int) (t u : Tok) (s : Shared) (Q : Value → Shared → Prop) (E : Value → Shared → Prop), Q (.bool (g i j)) s → wpAny (model X.prog X.w) X.A (f (.int i t) (.int j u)) Q E s) :
    OpR X f (rI0 fun i j => .bl (g i j)) := by
  intro pins s σ H x y v u Q I rx ry h
  obtain ⟨i, j, rfl, rfl, q⟩ := h
  obtain ⟨t, rfl⟩ := rx
  obtain ⟨t', rfl⟩ := ry
  exact rule i j t t' s _ _ ⟨.bl (g i j), H, I, rfl, q⟩
def CDiv (i j : Int) : Prop := 0 < j ∧ j < 1073741824
def CDivN (i j : Int) : Prop := j ≠ 0 ∧ j.natAbs < 1073741824
def CPow (i j : Int) : Prop := 0 ≤ j ∧ j ≤ 1000000 ∧ i.natAbs < 2 ^ 64
def CMul (i j : Int) : Prop := (-(2 ^ 64) < i ∧ i < 2 ^ 64) ∨ (-(2 ^ 64) < j ∧ j < 2 ^ 64)
theorem CMul.ok {i j : Int} (h : CMul i j) : IntMulOk i j := by
  rcases h with ⟨h1, h2⟩ | ⟨h1, h2⟩
  · exact .of_left (intBits_le_64 h1 h2)
  · exact .of_right (intBits_le_64 h1 h2)
theorem op_add : OpR X (binaryOp .Add) (rI0 fun i j => .int (i + j)) := opI0 fun _ _ _ _ _ _ _ q => add_int q
theorem op_sub : OpR X (binaryOp .Sub) (rI0 fun i j => .int (i - j)) := opI0 fun _ _ _ _ _ _ _ q => sub_int q
theorem op_fdiv : OpR X (binaryOp .FloorDiv) (rI CDiv fun i j => .int (i / j)) := opI fun i j _ _ _ _ _ hc q => by
  have h1 : (0 : Int) < j := hc.1
  have h2 : j < 1073741824 := hc.2
  exact floordiv_int (by omega) (by rw [Int.fdiv_eq_ediv_of_nonneg i (by omega)]; exact q) (.inl (PyProof.noPylong_small (by omega)))
theorem op_mod : OpR X (binaryOp .Mod) (rI (fun _ j => 0 < j) fun i j => .int (i % j)) := opI fun i j _ _ _ _ _ hc q => by
  have h1 : (0 : Int) < j := hc
  exact mod_int' (by omega) (by rw [Int.fmod_eq_emod_of_nonneg i (by omega)]; exact q)
theorem unI {f : Value → Sem Value} {g : Int → Int}
    (rule : ∀ (i : Int) (t : Tok) (s : Shared) (Q : Value → Shared → Prop) (E : Value → Shared → Prop), Q (.int (g i) s.toks) { s with toks := s.toks + 1 } → wpAny (model X.prog X.w) X.A (f (.int i t)) Q E s) :
    UnR X f (rU fun i => .int (g i)) := by
  intro pins s σ H x v Q I rx h
  obtain ⟨i, rfl, q⟩ := h
  obtain ⟨t, rfl⟩ := rx
  exact rule i t s _ _ ⟨.int (g i), H, I.tok _, ⟨_, rfl⟩, q⟩
theorem un_neg : UnR X (unaryOp .USub) (rU fun i => .int (-i)) := unI fun _ _ _ _ _ q => neg_int q
end
def scal : V → V → Bool
  | .non, .non => true | .non, .int _ => true | .int _, .non => true | .non, .bl _ => true | .bl _, .non => true | .non, .str _ => true | .str _, .non => true
  | .int _, .int _ => true | .bl _, .bl _ => true | .str _, .str _ => true | .byt _, .byt _ => true
  | .int _, .str _ => true | .str _, .int _ => true | .bl _, .str _ => true | .str _, .bl _ => true
  | _, _ => false
def rEq : R2 := fun x y H Q => scal x y = true ∧ Q (.bl (decide (x = y))) H
def rNe : R2 := fun x y H Q => scal x y = true ∧ Q (.bl (!decide (x = y))) H
theorem dec_int {i j : Int} : decide (V.int i = V.int j) = (i == j) := by
  rw [Bool.eq_iff_iff]
  simp
theorem dec_bl {i j : Bool} : decide (V.bl i = V.bl j) = (i == j) := by
  rw [Bool.eq_iff_iff]
  simp
theorem dec_str {i j : Str} : decide (V.str i = V.str j) = (i == j) := by
  rw [Bool.eq_iff_iff]
  simp
theorem dec_byt {i j : Array UInt8} : decide (V.byt i = V.byt j) = (i.toList == j.toList) := by
  rw [Bool.eq_iff_iff]
  cases i
  cases j
  simp
section
variable {X : Cx} {a b c : Expr} {ta tb tc : TE} {pos : Pos}
theorem fin_bl {pins : List (Addr × Obj)} {σ : St} {H : Hp} {s : Shared} {Q : VK} {k k' : Bool} (I : Inv X pins σ H s) (q : Q (.bl k) H) (e : k = k') : EP X pins σ Q (.bool k') s := by
  subst e
  exact ⟨.bl k, H, I, rfl, q⟩
theorem op_eq : OpR X (compareOp .Eq) rEq := by
  intro pins s σ H x y v u Q I rx ry h
  obtain ⟨hs, q⟩ := h
  cases x with
  | non =>
    cases rx
    cases y with
    | non => cases ry; exact PySem.EqNone.eq_none_none (fin_bl I q (by simp))
    | bl j => cases ry; exact PySem.EqNone.eq_none_bool (fin_bl I q (by simp))
    | int j => obtain ⟨t', rfl⟩ := ry; exact PySem.EqNone.eq_none_int (fin_bl I q (by simp))
    | str j => obtain ⟨t', rfl⟩ := ry; exact PySem.EqNone.eq_none_str (fin_bl I q (by simp))
    | _ => exact absurd (show false = true from hs) Bool.false_ne_true
  | bl i =>
    cases rx
    cases y with
    | non => cases ry; exact PySem.EqNone.eq_bool_none (fin_bl I q (by simp))
    | bl j => cases ry; exact eq_bool (fin_bl I q dec_bl)
    | str j => obtain ⟨t', rfl⟩ := ry; exact PySem.EqMixed.eq_bool_str (fin_bl I q (by simp))
    | _ => exact absurd (show false = true from hs) Bool.false_ne_true
  | int i =>
    obtain ⟨t, rfl⟩ := rx
    cases y with
    | non => cases ry; exact PySem.EqNone.eq_int_none (fin_bl I q (by simp))
    | int j => obtain ⟨t', rfl⟩ := ry; exact eq_int (fin_bl I q dec_int)
    | str j => obtain ⟨t', rfl⟩ := ry; exact PySem.EqMixed.eq_int_str (fin_bl I q (by simp))
    | _ => exact absurd (show false = true from hs) Bool.false_ne_true
  | str i =>
    obtain ⟨t, rfl⟩ := rx
    cases y with
    | non => cases ry; exact PySem.EqNone.eq_str_none (fin_bl I q (by simp))
    | bl j => cases ry; exact PySem.EqMixed.eq_str_bool (fin_bl I q (by simp))
    | int j => obtain ⟨t', rfl⟩ := ry; exact PySem.EqMixed.eq_str_int (fin_bl I q (by simp))
    | str j => obtain ⟨t', rfl⟩ := ry; exact eq_str (fin_bl I q dec_str)
    | _ => exact absurd (show false = true from hs) Bool.false_ne_true
  | byt i =>
    obtain ⟨t, rfl⟩ := rx
    cases y with
    | byt j => obtain ⟨t', rfl⟩ := ry; exact PySem.W.eq_bytes (fin_bl I q dec_byt)
    | _ => exact absurd (show false = true from hs) Bool.false_ne_true
  | _ => cases y <;> exact absurd (show false = true from hs) Bool.false_ne_true
theorem op_ne : OpR X (compareOp .NotEq) rNe := by
  intro pins s σ H x y v u Q I rx ry h
  obtain ⟨hs, q⟩ := h
  cases x with
  | non =>
    cases rx
    cases y with
    | non => cases ry; exact PySem.EqNone.ne_none_none (fin_bl I q (by simp))
    | bl j => cases ry; exact PySem.EqNone.ne_none_bool (fin_bl I q (by simp))
    | int j => obtain ⟨t', rfl⟩ := ry; exact PySem.EqNone.ne_none_int (fin_bl I q (by simp))
    | str j => obtain ⟨t', rfl⟩ := ry; exact PySem.EqNone.ne_none_str (fin_bl I q (by simp))
    | _ => exact absurd (show false = true from hs) Bool.false_ne_true
  | bl i =>
    cases rx
    cases y with
    | non => cases ry; exact PySem.EqNone.ne_bool_none (fin_bl I q (by simp))
    | bl j => cases ry; exact ne_bool (fin_bl I q (congrArg not dec_bl))
    | str j => obtain ⟨t', rfl⟩ := ry; exact PySem.EqMixed.ne_bool_str (fin_bl I q (by simp))
    | _ => exact absurd (show false = true from hs) Bool.false_ne_true
  | int i =>
    obtain ⟨t, rfl⟩ := rx
    cases y with
    | non => cases ry; exact PySem.EqNone.ne_int_none (fin_bl I q (by simp))
    | int j => obtain ⟨t', rfl⟩ := ry; exact ne_int (fin_bl I q (congrArg not dec_int))
    | str j => obtain ⟨t', rfl⟩ := ry; exact PySem.EqMixed.ne_int_str (fin_bl I q (by simp))
    | _ => exact absurd (show false = true from hs) Bool.false_ne_true
  | str i =>
    obtain ⟨t, rfl⟩ := rx
    cases y with
    | non => cases ry; exact PySem.EqNone.ne_str_none (fin_bl I q (by simp))
    | bl j => cases ry; exact PySem.EqMixed.ne_str_bool (fin_bl I q (by simp))
    | int j => obtain ⟨t', rfl⟩ := ry; exact PySem.EqMixed.ne_str_int (fin_bl I q (by simp))
    | str j => obtain ⟨t', rfl⟩ := ry; exact ne_str (fin_bl I q (congrArg not dec_str))
    | _ => exact absurd (show false = true from hs) Bool.false_ne_true
  | byt i =>
    obtain ⟨t, rfl⟩ := rx
    cases y with
    | byt j => obtain ⟨t', rfl⟩ := ry; exact PySem.W.ne_bytes (fin_bl I q (congrArg not dec_byt))
    | _ => exact absurd (show false = true from hs) Bool.false_ne_true
  | _ => cases y <;> exact absurd (show false = true from hs) Bool.false_ne_true
theorem op_lt : OpR X (compareOp .Lt) (rI0 fun i j => .bl (decide (i < j))) := opB0 fun _ _ _ _ _ _ _ q => lt_int q
theorem op_le : OpR X (compareOp .LtE) (rI0 fun i j => .bl (decide (i ≤ j))) := opB0 fun _ _ _ _ _ _ _ q => le_int q
theorem op_gt : OpR X (compareOp .Gt) (rI0 fun i j => .bl (decide (j < i))) := opB0 fun _ _ _ _ _ _ _ q => gt_int q
theorem op_ge : OpR X (compareOp .GtE) (rI0 fun i j => .bl (decide (j ≤ i))) := opB0 fun _ _ _ _ _ _ _ q => ge_int q
def isObj : HO → Bool
  | .lst _ => true
  | .ins _ _ _ => true
  | _ => false
theorem OpR.or {f : Value → Value → Sem Value} {r r' : R2} (h : OpR X f r) (h' : OpR X f r') : OpR X f (fun x y H Q => r x y H Q ∨ r' x y H Q) := by
  intro pins s σ H x y v u Q I rx ry q
  rcases q with q | q
  · exact h pins s σ H x y v u Q I rx ry q
  · exact h' pins s σ H x y v u Q I rx ry q
theorem nomark (b : Expr) {op : CmpOp} (h : op ≠ .In := by decide) (h2 : op ≠ .NotIn := by decide) : behindInMarks op b = false := by
  have e1 : (op == CmpOp.In) = false := by cases op <;> first | rfl | exact absurd rfl h
  have e2 : (op == CmpOp.NotIn) = false := by cases op <;> first | rfl | exact absurd rfl h2
  cases b <;> simp [behindInMarks, e1, e2]
theorem pe_cmpR {op : CmpOp} {r : R2} (ho : OpR X (compareOp op) r) (ha : PE X a ta) (hb : PE X b tb) (hm : behindInMarks op b = false) : PE X (.Compare a [op] [b] pos) (tOp r ta tb) := by
  intro pins s σ H Q I h
  exact wpAny_Compare1 (binT ha hb I h fun v u s2 x y H2 I2 rx ry q => ho pins s2 σ H2 x y v u Q I2 rx ry q) hm
def tTest (t : TE) : TT := fun σ H Q => t σ H fun x H' => ∃ k, x = .bl k ∧ Q k H'
theorem pt_cmpR {op : CmpOp} {r : R2} (ho : OpR X (compareOp op) r) (ha : PE X a ta) (hb : PE X b tb) (hm : behindInMarks op b = false) : PT X (.Compare a [op] [b] pos) (tTest (tOp r ta tb)) := by
  intro pins s σ H Q I h
  refine wpAny_isTrue_Compare1 (thn (ha pins s σ H _ I h) fun v s1 ⟨x, H1, I1, r1, q1⟩ => thn (hb pins s1 σ H1 _ I1 q1) fun u s2 ⟨y, H2, I2, r2, q2⟩ =>
    thn (ho pins s2 σ H2 x y v u _ I2 r1 r2 q2) fun c s3 ⟨z, H3, I3, r3, k, e, q3⟩ => ?_) hm
  subst e
  cases r3
  exact wpAny_truthy_bool ⟨H3, I3, q3⟩
def tChain (r r' : R2) (ta tb tc : TE) : TE := fun σ H Q => ta σ H fun x H1 => tb σ H1 fun y H2 => r x y H2 fun z H3 => ∃ k, z = .bl k ∧
  (if k = true then tc σ H3 fun w' H4 => r' y w' H4 Q else Q (.bl false) H3)
def TruV (K : PySem.W.Frag) (x : V) (H : Hp) (k : Bool) : Prop :=
  match x with
  | .non => k = false
  | .bl b => k = b
  | .int i => k = (i != 0)
  | .str y => y.length ≤ sizeLine ∧ k = ((y.length : Int) != 0)
  | .byt y => y.size ≤ sizeLine ∧ k = ((y.size : Int) != 0)
  | .ref p => (∃ xs, SqL K H p xs ∧ k = !xs.isEmpty) ∨ (∃ xs, SqT K H p xs ∧ k = !xs.isEmpty) ∨ ∃ kvs, H p = some (.dK kvs) ∧ k = !kvs.isEmpty
  | _ => False
theorem line63 : (sizeLine : Nat) < 2 ^ 63 := by rw [sizeLine_eq]; decide
def PlainIxT (b : Expr) : Prop := ∀ o i, subscripted b false o i = operate [o, i] (getItem o i)
theorem vals1 {x : V} {us : List Value} (r : Vals [x] us) : ∃ u, us = [u] ∧ RelV x u := by
  cases r with
  | cons r1 r2 => cases r2; exact ⟨_, rfl, r1⟩
theorem vals2 {x y : V} {us : List Value} (r : Vals [x, y] us) : ∃ u w', us = [u, w'] ∧ RelV x u ∧ RelV y w' := by
  cases r with
  | cons r1 r2 =>
    cases r2 with
    | cons r3 r4 => cases r4; exact ⟨_, _, rfl, r1, r3⟩
def LenV (K : PySem.W.Frag) (x : V) (H : Hp) (n : Nat) : Prop :=
  match x with
  | .str y => y.length ≤ sizeLine ∧ n = y.length
  | .byt y => y.size ≤ sizeLine ∧ n = y.size
  | .ref p => (∃ xs, SqL K H p xs ∧ n = xs.length) ∨ ∃ xs, SqT K H p xs ∧ n = xs.length
  | _ => False
end
end L2
namespace L2
open PySem PySem.Spec PyProof.Rows
structure ObjM (h : Heap) (x dx C : Addr) (mA : Str → Option Value) : Prop where
  obj : h.get? x = some (PySem.W.instObj C dx)
  ns : h.Ns1 dx mA
  ne : dx ≠ x
theorem lookIn_ns {h : Heap} {dx : Addr} {mA : Str → Option Value} (n : h.Ns1 dx mA) : ∃ od, h.get? dx = some od ∧ ∀ name, PySem.W.lookIn name od = some (mA name) := by
  obtain ⟨o, es, ep, ho, hd, hk, _, hm⟩ := n
  refine ⟨o, ho, fun name => ?_⟩
  have e := hm name
  unfold nsFind findBy at e
  rw [← Array.find?_toList] at e
  unfold PySem.W.lookIn
  rw [hd]
  dsimp only
  split
  · rename_i y q
    rw [q] at e
    exact congrArg some e
  · rename_i q
    rw [q] at e
    have a : es.toList.any (·.refKey) = false := by
      rw [List.any_eq_false]
      intro y hy
      obtain ⟨z, t, hkey⟩ := hk y (Array.mem_toList_iff.mp hy)
      simp [DictEntry.refKey, hkey]
    have a' : ¬ es.toList.any (·.refKey) = true := by rw [a]; exact Bool.false_ne_true
    rw [if_neg a']
    exact congrArg some e
theorem ObjM.look {h : Heap} {x dx C : Addr} {mA : Str → Option Value} (I : ObjM h x dx C mA) : ∃ od, PySem.W.InstAt h x (PySem.W.instObj C dx) C (some od) ∧ ∀ name, PySem.W.lookIn name od = some (mA name) :=
  let ⟨od, ho, hl⟩ := lookIn_ns I.ns
  ⟨od, ⟨I.obj, rfl, rfl, ho⟩, hl⟩
section
variable {prog : Program} {w : World} {A : Around} {E : Value → Shared → Prop} {s : Shared} {K : PySem.W.Frag} {x dx C f : Addr} {mA : Str → Option Value} {name : Str} {v : Value}
end
def putF (f : Str) (v : V) : List (Str × V) → List (Str × V)
  | [] => [(f, v)]
  | (g, x) :: r => if g = f then (g, v) :: r else (g, x) :: putF f v r
theorem RelO.some_of {v : V} {o : Option Value} (r : RelO (some v) o) : ∃ u, o = some u ∧ RelV v u := by
  cases o with
  | none => exact (show False from r).elim
  | some u => exact ⟨u, rfl, r⟩
theorem RelO.none_of {o : Option Value} (r : RelO none o) : o = none := by
  cases o with
  | none => rfl
  | some u => exact (show False from r).elim
section
variable {P : Program} {w : World} {H H' : Hp} {h h' : Heap} {a C dx : Addr} {fs fs' : List (Str × V)}
theorem ins_get (hok : HOk P w H h) (e : H a = some (.ins C dx fs)) : ∃ mA, ObjM h a dx C mA ∧ (∀ f, RelO (fs.lookup f) (mA f)) ∧ PySem.Within mA (fs.map (·.1)) ∧ fs.length ≤ 1000 ∧ H dx = some (.own a) := by
  obtain ⟨d, z, ne, ob, mA, n, r, q⟩ := (show ObjOk P w H h a (.ins C dx fs) from hok a _ e)
  exact ⟨mA, ⟨ob, n, ne⟩, r, q, z, d⟩
end
structure Cls (K : PySem.W.Frag) (C : Addr) : Prop where
  pg : PySem.W.plainGet K C Str.empty = true
  hd : PySem.W.hasDictIn K C = true
  po : PySem.W.plainOver K C = true
  sa : PySem.W.findIn K (.ref C) "__setattr__" = some (some (.builtin "object.__setattr__"))
theorem Cls.get {K : PySem.W.Frag} {C : Addr} (c : Cls K C) (f : Str) : PySem.W.plainGet K C f = true := c.pg
def NoAttr (K : PySem.W.Frag) (C : Addr) (f : Str) : Prop := PySem.W.findIn K (.ref C) f = some none
structure Con (K : PySem.W.Frag) (C : Addr) (f : Str) (v : V) (u : Value) : Prop where
  at_ : PySem.W.findIn K (.ref C) f = some (some u)
  rel : RelV v u
  get : PySem.W.specialIn K u "__get__" = some none
  cp : PySem.W.copiedNames.contains f = false
structure Meth (K : PySem.W.Frag) (C : Addr) (m : Str) (f : Addr) : Prop where
  at_ : PySem.W.findIn K (.ref C) m = some (some (.ref f))
  fn : PySem.W.isFn K (.ref f) = true
  kp : PySem.W.keepIn K (.ref f) = true
section
variable {X : Cx} {pins : List (Addr × Obj)} {σ : St} {H : Hp} {s : Shared} {a C dx : Addr} {fs : List (Str × V)} {f : Str} {v : V} {A : Around} {E : Value → Shared → Prop}
theorem Inv.made (I : Inv X pins σ H s) : Inv X pins σ (upd (upd H s.heap.objs.size (.own (s.heap.objs.size + 1))) (s.heap.objs.size + 1) (.ins C s.heap.objs.size []))
    { s with heap := (s.heap.push PySem.W.emptyDict).push (PySem.W.instObj C s.heap.objs.size) } := by
  have e1 : (s.heap.push PySem.W.emptyDict).get? s.heap.objs.size = some PySem.W.emptyDict := Heap.get?_push_size s.heap rfl
  have e2 : ((s.heap.push PySem.W.emptyDict).push (PySem.W.instObj C s.heap.objs.size)).get? (s.heap.objs.size + 1) = some (PySem.W.instObj C s.heap.objs.size) := by
    have := Heap.get?_push_size (s.heap.push PySem.W.emptyDict) (o := PySem.W.instObj C s.heap.objs.size) rfl
    rwa [Heap.size_push] at this
  have e3 : (s.heap.push PySem.W.emptyDict).Ns s.heap.objs.size (fun _ => none) := ⟨PySem.W.emptyDict, #[], _, e1, rfl, (fun e he => absurd he (by simp)), fun _ => rfl⟩
  have I1 := I.laid (a := s.heap.objs.size) (o := .own (s.heap.objs.size + 1)) (h' := s.heap.push PySem.W.emptyDict) (t' := s.toks) (fun b u q => Heap.get?_push_of_some _ q) (Nat.le_refl _) ⟨_, e1⟩
  refine I1.laid (a := s.heap.objs.size + 1) (o := .ins C s.heap.objs.size []) (t' := s.toks) (fun b u q => Heap.get?_push_of_some _ q) (Nat.le_of_eq (Heap.size_push _ _)) ?_
  have ne : s.heap.objs.size ≠ s.heap.objs.size + 1 := Nat.ne_of_lt (Nat.lt_succ_self _)
  refine ⟨by rw [upd_ne ne, upd_same], Nat.zero_le _, ne, e2, fun _ => none, (Heap.Ns1.of_empty e3).at fun o q => Heap.get?_push_of_some _ q, fun _ => True.intro, fun y hy => absurd rfl hy⟩
end
def tFld (K : PySem.W.Frag) (ta : TE) (f : Str) : TE := fun σ H Q => ta σ H fun x H1 => ∃ a C dx fs v, x = .ref a ∧ H1 a = some (.ins C dx fs) ∧ Cls K C ∧ NoAttr K C f ∧ fs.lookup f = some v ∧ Q v H1
def tCon (K : PySem.W.Frag) (ta : TE) (f : Str) : TE := fun σ H Q => ta σ H fun x H1 => ∃ a C dx fs v u, x = .ref a ∧ H1 a = some (.ins C dx fs) ∧ Cls K C ∧ Con K C f v u ∧ fs.lookup f = none ∧ Q v H1
def sFld (K : PySem.W.Frag) (ta tv : TE) (f : Str) : TS := fun D σ H => tv σ H fun y H1 => ta σ H1 fun x H2 => ∃ a C dx fs, x = .ref a ∧ H2 a = some (.ins C dx fs) ∧ Cls K C ∧ NoAttr K C f ∧ fs.length < 1000 ∧
  D.nx σ (upd H2 a (.ins C dx (putF f y fs)))
def InOp (X : Cx) (op : Operator) (rd : V → V → Hp → VK → Prop) : Prop :=
  ∀ (pins : List (Addr × Obj)) (s : Shared) (σ : St) (H : Hp) (x y : V) (u v : Value) (Q : VK), Inv X pins σ H s → RelV x u → RelV y v → rd x y H Q → wpAny (model X.prog X.w) X.A (inplaceOp op u v) (EP X pins σ Q) X.xe s
def sFldAug (K : PySem.W.Frag) (ta tv : TE) (rd : V → V → Hp → VK → Prop) (f : Str) : TS := fun D σ H => ta σ H fun x H1 => ∃ a C dx fs v, x = .ref a ∧ H1 a = some (.ins C dx fs) ∧ Cls K C ∧ NoAttr K C f ∧ fs.lookup f = some v ∧
  tv σ H1 fun y H2 => rd v y H2 fun z H3 => ∃ dx' fs', H3 a = some (.ins C dx' fs') ∧ fs'.length < 1000 ∧ D.nx σ (upd H3 a (.ins C dx' (putF f z fs')))
section
variable {X : Cx} {o e value : Expr} {f : Str} {pos pos' tpos : Pos} {ta tv : TE}
def rAdd : V → V → Hp → VK → Prop := fun x y H Q => ∃ i j, x = .int i ∧ y = .int j ∧ Q (.int (i + j)) H
def rSub : V → V → Hp → VK → Prop := fun x y H Q => ∃ i j, x = .int i ∧ y = .int j ∧ Q (.int (i - j)) H
end
section
variable {X : Cx} {pins : List (Addr × Obj)} {σ : St} {H : Hp} {s : Shared} {A : Around} {E : Value → Shared → Prop} {Q : Value → Shared → Prop} {c : Value} {b : Bool}
inductive TyOf (K : PySem.W.Frag) (H : Hp) : V → Value → Prop where
  | non : TyOf K H .non (.type "NoneType")
  | bl (x : Bool) : TyOf K H (.bl x) (.type "bool")
  | int (i : Int) : TyOf K H (.int i) (.type "int")
  | str (x : Str) : TyOf K H (.str x) (.type "str")
  | flt (x : UInt64) : TyOf K H (.flt x) (.type "float")
  | lst {a : Addr} {xs : List V} (e : H a = some (.lst xs)) : TyOf K H (.ref a) (.type "list")
  | frz {a : Addr} {o : Obj} {xs : List V} (e : H a = some (.frz o (.lst xs))) : TyOf K H (.ref a) (.type "list")
  | tup {a : Addr} {xs : List V} (e : H a = some (.tup xs)) : TyOf K H (.ref a) (.type "tuple")
  | dK {a : Addr} {kvs : List (Key × V)} (e : H a = some (.dK kvs)) : TyOf K H (.ref a) (.type "dict")
  | dT {a : Addr} {kvs : List (List Key × V)} (e : H a = some (.dT kvs)) : TyOf K H (.ref a) (.type "dict")
  | ins {a C dx : Addr} {fs : List (Str × V)} (e : H a = some (.ins C dx fs)) (cl : Cls K C) (ha : PySem.W.findIn K (.ref C) "__class__" = some (some (.builtin "object.__class__")))
      (hn : PySem.W.specialIn K (.builtin "object.__class__") "__get__" = some (some (.builtin "getset_descriptor.__get__"))) (htk : PySem.W.takesIn K (.builtin "object.__class__") = some true)
      (hm : PySem.W.mroIn K C (.type "object") = some true) : TyOf K H (.ref a) (.ref C)
theorem isinst_ok {x : V} {u t : Value} (I : Inv X pins σ H s) (rx : RelV x u) (ty : TyOf X.K H x t) (e : PySem.W.kitOne X.K t c = some b) (h : ∀ tk, Q (.bool b) { s with toks := tk }) :
    wpAny (model X.prog X.w) A (call (.builtin "isinstance") [u, c]) Q E s := by
  cases ty with
  | non => cases (show u = Value.none from rx); exact PySem.W.kia_one PySem.W.kitx_none I.kIn True.intro e (fun z => nomatch z) h
  | bl y => cases (show u = Value.bool y from rx); exact PySem.W.kia_one PySem.W.kitx_bool I.kIn True.intro e (fun z => nomatch z) h
  | int i => obtain ⟨t, q⟩ := (show ∃ t, u = Value.int i t from rx); cases q; exact PySem.W.kia_one PySem.W.kitx_int I.kIn True.intro e (fun z => nomatch z) h
  | str y => obtain ⟨t, q⟩ := (show ∃ t, u = Value.str y t from rx); cases q; exact PySem.W.kia_one PySem.W.kitx_str I.kIn True.intro e (fun z => nomatch z) h
  | flt y => obtain ⟨t, q⟩ := (show ∃ t, u = Value.float y t from rx); cases q; exact PySem.W.kia_one PySem.W.kitx_float I.kIn True.intro e (fun z => nomatch z) h
  | @lst a xs ea =>
    cases (show u = Value.ref a from rx)
    obtain ⟨_, _, n, _, h1⟩ := (show ObjOk X.prog X.w H s.heap a (.lst xs) from I.hok a _ ea)
    exact PySem.W.kia_one PySem.W.kitx_list I.kIn ⟨_, h1, rfl⟩ e (fun z => nomatch z) h
  | @frz a ob xs ea =>
    cases (show u = Value.ref a from rx)
    obtain ⟨_, _, _, n, _, h1⟩ := (show ObjOk X.prog X.w H s.heap a (.frz ob (.lst xs)) from I.hok a _ ea)
    exact PySem.W.kia_one PySem.W.kitx_list I.kIn ⟨_, h1, rfl⟩ e (fun z => nomatch z) h
  | @tup a xs ea =>
    cases (show u = Value.ref a from rx)
    obtain ⟨_, _, _, p⟩ := (show ObjOk X.prog X.w H s.heap a (.tup xs) from I.hok a _ ea)
    obtain ⟨o, h1, h2, _⟩ := p
    exact PySem.W.kia_one PySem.W.kitx_tuple I.kIn ⟨o, h1, h2⟩ e (fun z => nomatch z) h
  | @dK a kvs ea =>
    cases (show u = Value.ref a from rx)
    obtain ⟨_, _, vs, _, p⟩ := (show ObjOk X.prog X.w H s.heap a (.dK kvs) from I.hok a _ ea)
    obtain ⟨o, es, ep, h1, h2, _⟩ := p
    exact PySem.W.kia_one PySem.W.kitx_dict I.kIn ⟨o, h1, h2.1⟩ e (fun z => nomatch z) h
  | @dT a kvs ea =>
    cases (show u = Value.ref a from rx)
    obtain ⟨_, _, xs, _, o, es, ep, h1, h2, _⟩ := (show ObjOk X.prog X.w H s.heap a (.dT kvs) from I.hok a _ ea)
    exact PySem.W.kia_one PySem.W.kitx_dict I.kIn ⟨o, h1, h2.1⟩ e (fun z => nomatch z) h
  | @ins a C dx fs ea cl ha hn htk hm =>
    cases (show u = Value.ref a from rx)
    obtain ⟨mA, O, _⟩ := ins_get I.hok ea
    obtain ⟨od, J, _⟩ := O.look
    exact PySem.W.kia_one (PySem.W.kitx_own (cl.get _) cl.hd ha hn htk hm) I.kIn J e (fun z => nomatch z) h
end
end L2
namespace L2
open PySem PySem.Spec PyProof.Rows
structure Room (k : Nat) (A : Around) : Prop where
  hd : A.handled = none
  dp : A.depth + 3 * k + 5 < recursionLimit
  un : A.units + 16 * k + 200 < cLine
theorem Room.mono {j k : Nat} {A : Around} (r : Room k A) (h : j ≤ k) : Room j A := ⟨r.hd, by have := r.dp; omega, by have := r.un; omega⟩
theorem Room.deeper {k : Nat} {A : Around} (r : Room (k + 1) A) (env : Env) : Room k (A.deeper env) :=
  ⟨r.hd, by have := r.dp; show A.depth + 1 + 3 * k + 5 < _; omega, by have := r.un; show A.units + 3 + 16 * k + 200 < _; omega⟩
theorem Room.in1 {k : Nat} {A : Around} (r : Room (k + 1) A) : Room k A.in1 :=
  ⟨r.hd, by have := r.dp; show A.depth + 3 * k + 5 < _; omega, by have := r.un; show A.units + 1 + 16 * k + 200 < _; omega⟩
theorem make_depth {A : Around} {C : Addr} {us : List Value} {kw : List (Str × Value)} : (A.under (.builtin "type.__call__" ⟨.ref C :: us, kw⟩)).depth = A.depth + 1 := by
  first | rfl | simp [Around.under, Code.weight, Code.isCreation, Code.isGuard, Code.isCaller, Code.frames, Code.isFrame, guardIds]
theorem make_units {A : Around} {C : Addr} {us : List Value} {kw : List (Str × Value)} : (A.under (.builtin "type.__call__" ⟨.ref C :: us, kw⟩)).units = A.units + 1 := by
  first | rfl | simp [Around.under, Code.cUnits, Code.frames, Code.isFrame]
theorem Room.make {k : Nat} {A : Around} (r : Room (k + 1) A) (C : Addr) (us : List Value) (kw : List (Str × Value)) : Room k (A.under (.builtin "type.__call__" ⟨.ref C :: us, kw⟩)) :=
  ⟨r.hd, by have := r.dp; rw [make_depth]; omega, by have := r.un; rw [make_units]; omega⟩
theorem Room.depth {k : Nat} {A : Around} (r : Room k A) : A.depth < recursionLimit := by have := r.dp; omega
theorem Room.units {k : Nat} {A : Around} (r : Room k A) : A.units + 64 < cLine := by have := r.un; omega
def tNil : TA := fun _ H Q => Q [] H
def tCons (ta : TE) (tr : TA) : TA := fun σ H Q => ta σ H fun x H1 => tr σ H1 fun xs H2 => Q (x :: xs) H2
section
variable {X : Cx} {e : Expr} {es : List Expr} {te : TE} {t : TA} {pos : Pos}
theorem pa_nil : PA X [] tNil := fun _ _ _ _ H Q I h => Calls.spliced_nil ⟨[], H, I, .nil, h⟩
theorem pa_cons (ha : PE X e te) (hr : PA X es t) (hs : starEach (e :: es) X.env = (false, eval e X.env) :: starEach es X.env := by rfl) : PA X (e :: es) (tCons te t) := by
  intro pos pins s σ H Q I h
  rw [hs]
  show wpAny _ _ (spliced ((false, eval e X.env) :: backTo pos (starEach es X.env))) _ _ s
  refine Calls.spliced_cons (thn (ha pins s σ H _ I h) fun u s1 ⟨x, H1, I1, r1, q1⟩ => ?_)
  exact thn (hr pos pins s1 σ H1 _ I1 q1) fun us s2 ⟨xs, H2, I2, r2, q2⟩ => ⟨x :: xs, H2, I2, .cons r1 r2, q2⟩
def tTup (t : TA) : TE := fun σ H Q => t σ H fun xs H1 => xs.length ≤ sizeLine ∧ ∀ p, H1 p = none → Q (.ref p) (upd H1 p (.tup xs))
def tLst (t : TA) : TE := fun σ H Q => t σ H fun xs H1 => xs.length ≤ sizeLine ∧ ∀ p, H1 p = none → Q (.ref p) (upd H1 p (.lst xs))
theorem pe_tup {x1} (h : PA X es t) : PE X (.Tuple es x1 pos) (tTup t) := by
  intro pins s σ H Q I hq
  refine wpAny_Tuple_spliced (thn (h pos pins s σ H _ I hq) fun us s1 ⟨xs, H1, I1, r, z, q⟩ => ⟨by rw [← r.length]; exact z, ?_⟩)
  have hf : H1 s1.heap.objs.size = none := I1.hok.fresh (Nat.le_refl _)
  refine ⟨.ref s1.heap.objs.size, upd H1 s1.heap.objs.size (.tup xs), I1.laid (t' := s1.toks) (fun b u e => Heap.get?_push_of_some _ e) (Nat.le_refl _) ?_, rfl, q _ hf⟩
  exact ⟨z, us, r, ⟨_, Heap.get?_push_size _ rfl, rfl, _, rfl⟩⟩
theorem pe_lst (h : PA X es t) : PE X (.List es pos) (tLst t) := by
  intro pins s σ H Q I hq
  refine wpAny_List_spliced (thn (h pos pins s σ H _ I hq) fun us s1 ⟨xs, H1, I1, r, z, q⟩ => ⟨by rw [← r.length]; exact z, ?_⟩)
  have hf : H1 s1.heap.objs.size = none := I1.hok.fresh (Nat.le_refl _)
  refine ⟨.ref s1.heap.objs.size, upd H1 s1.heap.objs.size (.lst xs), I1.laid (t' := s1.toks) (fun b u e => Heap.get?_push_of_some _ e) (Nat.le_refl _) ?_, rfl, q _ hf⟩
  exact ⟨z, us, 0, r, Heap.get?_push_size _ rfl⟩
end
abbrev Sp := List V → Hp → VK → XK → Prop
abbrev CXT := List Env → Hp → Shared → XK → Value → Shared → Prop
structure Env0 (P : Program) (w : World) (K : PySem.W.Frag) (mg : Str → Option Value) (base : Heap) (A : Around) (outer : List Env) (s : Shared) (H : Hp) : Prop where
  frames : A.frames = some outer
  mod : Mod K mg base
  bs : ∀ b o, base.get? b = some o → s.heap.get? b = some o ∧ H b = none
  bsz : base.objs.size ≤ s.heap.objs.size
  funs : s.heap.FunFrames base outer
  frf : ∀ b ∈ frs outer, H b = none
  hok : HOk P w H s.heap
  bare : AllBare s.gens
def CE (outer : List Env) (P : Program) (w : World) (H : Hp) (s : Shared) (Q : VK) (u : Value) (s' : Shared) : Prop :=
  ∃ v H', s'.os = s.os ∧ AllBare s'.gens ∧ Un (frs outer) [] H H' s.heap s'.heap ∧ HOk P w H' s'.heap ∧ RelV v u ∧ Q v H'
def CR (CX : CXT) (outer : List Env) (P : Program) (w : World) (H : Hp) (s : Shared) (Q : VK) (E : XK) (r : Result) (s' : Shared) : Prop :=
  match r with
  | .ok (.ret u) => CE outer P w H s Q u s'
  | .ok _ => False
  | .error e => CX outer H s E e s'
structure FnOk (P : Program) (w : World) (K : PySem.W.Frag) (mg : Str → Option Value) (base : Heap) (CX : CXT) (k : Nat) (f : Addr) (fd : FuncData) (ps : List Str) (sp : Sp) : Prop where
  len : ∀ vs H Q E, sp vs H Q E → vs.length = ps.length
  run : ∀ (A : Around) (outer : List Env) (s : Shared) (H : Hp) (args : Args) (us : List Value) (vs : List V) (Q : VK) (E : XK), Room k A → Env0 P w K mg base A outer s H → BindsTo s fd args (ps.zip us) → Vals vs us → sp vs H Q E →
    codeAny (model P w) A (.call (.ref f) args) (CR CX outer P w H s Q E) s
theorem FnOk.mono {P : Program} {w : World} {K : PySem.W.Frag} {mg : Str → Option Value} {base : Heap} {CX : CXT} {j k : Nat} {f : Addr} {fd : FuncData} {ps : List Str} {sp : Sp} (F : FnOk P w K mg base CX j f fd ps sp) (h : j ≤ k) :
    FnOk P w K mg base CX k f fd ps sp := ⟨F.len, fun A outer s H args us vs Q E hr => F.run A outer s H args us vs Q E (hr.mono h)⟩
theorem FnOk.imp {P : Program} {w : World} {K : PySem.W.Frag} {mg : Str → Option Value} {base : Heap} {CX : CXT} {k : Nat} {f : Addr} {fd : FuncData} {ps : List Str} {sp sp' : Sp} (F : FnOk P w K mg base CX k f fd ps sp)
    (h : ∀ vs H Q E, sp' vs H Q E → sp vs H Q E) : FnOk P w K mg base CX k f fd ps sp' :=
  ⟨fun vs H Q E q => F.len vs H Q E (h _ _ _ _ q), fun A outer s H args us vs Q E hr he hb hv hs => F.run A outer s H args us vs Q E hr he hb hv (h _ _ _ _ hs)⟩
theorem Env0.make {P : Program} {w : World} {K : PySem.W.Frag} {mg : Str → Option Value} {base : Heap} {A : Around} {outer : List Env} {s : Shared} {H : Hp} (e : Env0 P w K mg base A outer s H) (C : Addr) (us : List Value) (kw : List (Str × Value)) :
    Env0 P w K mg base (A.under (.builtin "type.__call__" ⟨.ref C :: us, kw⟩)) outer s H := ⟨by first | exact e.frames | (simpa [Around.under, Code.envs, Code.isFrame, pushEnvs] using e.frames), e.mod, e.bs, e.bsz, e.funs, e.frf, e.hok, e.bare⟩
theorem Env0.in1 {P : Program} {w : World} {K : PySem.W.Frag} {mg : Str → Option Value} {base : Heap} {A : Around} {outer : List Env} {s : Shared} {H : Hp} (e : Env0 P w K mg base A outer s H) :
    Env0 P w K mg base A.in1 outer s H := ⟨e.frames, e.mod, e.bs, e.bsz, e.funs, e.frf, e.hok, e.bare⟩
section
variable {X : Cx} {pins : List (Addr × Obj)} {σ : St} {H : Hp} {s s' : Shared}
theorem Inv.env0 (I : Inv X pins σ H s) : Env0 X.prog X.w X.K X.mg X.base X.A X.stack s H :=
  ⟨I.ok.frames, I.ok.mod, I.bs, Nat.le_trans I.ok.bsz I.sz, I.stack, I.stkFree, I.hok, I.bare⟩
theorem Inv.after {Q : VK} {u : Value} (I : Inv X pins σ H s) (h : CE X.stack X.prog X.w H s Q u s') : EP X pins σ Q u s' := by
  obtain ⟨v, H', os, bare, un, hok, r, q⟩ := h
  obtain ⟨hh, g, d, t, os'⟩ := s'
  obtain rfl : os' = s.os := os
  exact ⟨v, H', I.call (h' := hh) (g' := g) (d' := d) (t' := t) (ch := []) un hok bare (fun b z => absurd z (by simp)), r, q⟩
end
def tCall (sp : Sp) (dvs : List V) (E : XK) (t : TA) : TE := fun σ H Q => t σ H fun vs H1 => sp (vs ++ dvs) H1 Q E
def tMeth (C : Addr) (m : Str) (sp : Sp) (dvs : List V) (E : XK) (ta : TE) (t : TA) : TE := fun σ H Q => ta σ H fun x H1 => ∃ a dx fs, x = .ref a ∧ H1 a = some (.ins C dx fs) ∧ fs.lookup m = none ∧
  t σ H1 fun vs H2 => sp (x :: (vs ++ dvs)) H2 Q E
def tMake (C : Addr) (sp : Sp) (dvs : List V) (E : XK) (t : TA) : TE := fun σ H Q => t σ H fun vs H1 => ∀ x dx, H1 x = none → H1 dx = none → dx ≠ x →
  sp (.ref x :: (vs ++ dvs)) (upd (upd H1 dx (.own x)) x (.ins C dx [])) (fun v H2 => v = .non ∧ Q (.ref x) H2) E
def Binds (K : PySem.W.Frag) (fd : FuncData) (ps : List Str) (ds : List Value) : Prop :=
  ∀ (s : Shared) (us : List Value), K.In s.heap → (us ++ ds).length = ps.length → BindsTo s fd ⟨us, []⟩ (ps.zip (us ++ ds))
theorem Binds.all {K : PySem.W.Frag} {fd : FuncData} {ps : List Str} (h : ∀ us : List Value, us.length = ps.length → bindArgs fd ⟨us, []⟩ = pure (ps.zip us)) : Binds K fd ps [] := fun s us _ hl => by
  rw [List.append_nil] at hl ⊢
  exact .of_eq (h us hl)
def Passes (CX : CXT) (X : Cx) (E : XK) : Prop := ∀ (pins : List (Addr × Obj)) (σ : St) (H : Hp) (s : Shared) (e : Value) (s' : Shared), Inv X pins σ H s → CX X.stack H s E e s' → X.xe e s'
section
variable {X : Cx} {CX : CXT} {k : Nat} {f C : Addr} {fd : FuncData} {ps : List Str} {sp : Sp} {dvs : List V} {ds : List Value} {E : XK} {x m : Str} {p pos apos : Pos} {e o : Expr} {es : List Expr} {ta : TE} {t : TA}
theorem run_fn {pins : List (Addr × Obj)} {σ : St} {H : Hp} {s : Shared} {Q : VK} {us : List Value} {vs : List V} (F : FnOk X.prog X.w X.K X.mg X.base CX k f fd ps sp) (hr : Room k X.A) (hb : Binds X.K fd ps ds) (hd : Vals dvs ds) (hx : Passes CX X E)
    (I : Inv X pins σ H s) (r : Vals vs us) (h : sp (vs ++ dvs) H Q E) : wpAny (model X.prog X.w) X.A (call (.ref f) us) (EP X pins σ Q) X.xe s := by
  have r2 : Vals (vs ++ dvs) (us ++ ds) := r.append hd
  have hl : (us ++ ds).length = ps.length := by rw [← r2.length]; exact F.len _ _ _ _ h
  refine wpAny_call (codeAny_mono (F.run X.A X.stack s H ⟨us, []⟩ (us ++ ds) (vs ++ dvs) Q E hr I.env0 (hb s us I.kIn hl) r2 h) fun r s' hq => ?_)
  cases r with
  | error e => exact hx pins σ H s e s' I hq
  | ok fl =>
    cases fl with
    | ret u => exact I.after hq
    | next => exact False.elim hq
    | brk => exact False.elim hq
    | cont => exact False.elim hq
theorem pe_call (F : FnOk X.prog X.w X.K X.mg X.base CX k f fd ps sp) (hr : Room k X.A) (hg : Gl X x) (hm : X.mg x = some (.ref f)) (hk : PySem.W.keepIn X.K (.ref f) = true) (hb : Binds X.K fd ps ds) (hd : Vals dvs ds) (hx : Passes CX X E)
    (ha : PA X (e :: es) t) (hdb : (x == ("__debug__" : Str)) = false := by decide) (he : starEach (e :: es) X.env = (false, eval e X.env) :: starEach es X.env := by rfl) (hpl : (backTo pos (starEach es X.env)).any (·.1) = false := by rfl) :
    PE X (.Call (.Name x p) (e :: es) [] pos) (tCall sp dvs E t) := by
  intro pins s σ H Q I h
  refine wpAny_Call_Name_kw (ld_glob I hg hm ?_ hdb)
  refine PySem.W.callWith_K (h₀ := X.base) I.ok.mod.kin hk (thn (ha pos pins s σ H _ I h) fun us s1 ⟨vs, H1, I1, r, q⟩ => ⟨I1.kIn, ?_⟩) he hpl
  exact run_fn F hr hb hd hx I1 r q
structure Mk (K : PySem.W.Frag) (C f : Addr) : Prop where
  makes : PySem.W.makesIn K C = true
  init : PySem.W.findIn K (.ref C) "__init__" = some (some (.ref f))
  fn : PySem.W.isFn K (.ref f) = true
  kp : PySem.W.keepIn K (.ref C) = true
end
def PK (X : Cx) (kws : List Keyword) (t : TA) : Prop :=
  ∀ (pos : Pos) (pins : List (Addr × Obj)) (s : Shared) (σ : St) (H : Hp) (Q : List V → Hp → Prop), Inv X pins σ H s → t σ H Q → wpAny (model X.prog X.w) X.A (evalAll ((backToKw pos (keywordEach kws X.env)).map (·.2))) (AP X pins σ Q) X.xe s
section
variable {X : Cx} {CX : CXT} {k : Nat} {f C : Addr} {fd : FuncData} {ps ks : List Str} {sp : Sp} {E : XK} {x m : Str} {p pos apos kpos : Pos} {e o : Expr} {es : List Expr} {kws : List Keyword} {te ta : TE} {t tk : TA} {nm : Option Str}
structure KBinds (K : PySem.W.Frag) (fd : FuncData) (ps ks : List Str) (g : List Value → List Value → List Value) (gV : List V → List V → List V) : Prop where
  to : ∀ (s : Shared) (us ws : List Value), K.In s.heap → (g us ws).length = ps.length → BindsTo s fd ⟨us, ks.zip ws⟩ (ps.zip (g us ws))
  rel : ∀ {vs : List V} {us : List Value} {zs : List V} {ws : List Value}, Vals vs us → Vals zs ws → Vals (gV vs zs) (g us ws)
def tCallK (sp : Sp) (gV : List V → List V → List V) (E : XK) (t tk : TA) : TE := fun σ H Q => t σ H fun vs H1 => tk σ H1 fun zs H2 => sp (gV vs zs) H2 Q E
variable {g : List Value → List Value → List Value} {gV : List V → List V → List V}
end
structure FnScope (N P : List Str) (sc : Scope) : Prop where
  kind : sc.kind = .function
  co : sc.isCoroutine = false
  gen : sc.isGenerator = false
  nd : N.Nodup
  pre : N.take P.length = P
  par : ∀ x ∈ P, sc.names.lookup x = some .local ∨ sc.names.lookup x = some .cell
  nofree : ∀ y ∈ sc.names, y.2 ≠ .free
theorem bindL_out {kindOf : Str → Option NameKind} {x : Str} : ∀ {binds : List (Str × Value)} {m : Str → Option Value}, (∀ v, (x, v) ∉ binds) → bindL kindOf binds m x = m x
  | [], _, _ => rfl
  | (n, v) :: r, m, h => by
    unfold bindL
    rw [bindL_out fun w hw => h w (List.mem_cons_of_mem _ hw)]
    split
    · have : x ≠ n := by rintro rfl; exact h v List.mem_cons_self
      simp [this]
    · rfl
theorem bindC_out {kindOf : Str → Option NameKind} {x : Str} : ∀ {binds : List (Str × Value)} {m : Str → Option Value}, (∀ v, (x, v) ∉ binds) → bindC kindOf binds m x = m x
  | [], _, _ => rfl
  | (n, v) :: r, m, h => by
    unfold bindC
    rw [bindC_out fun w hw => h w (List.mem_cons_of_mem _ hw)]
    split
    · rfl
    · have : x ≠ n := by rintro rfl; exact h v List.mem_cons_self
      simp [this]
theorem bindL_get {kindOf : Str → Option NameKind} {x : Str} {v : Value} : ∀ {P : List Str} {vs : List Value} {i : Nat} {m : Str → Option Value}, P.Nodup → P[i]? = some x → vs[i]? = some v → kindOf x = some .local →
    bindL kindOf (P.zip vs) m x = some v
  | [], _, _, _, _, h, _, _ => by simp at h
  | _ :: _, [], _, _, _, _, h, _ => by simp at h
  | p :: P, w :: vs, 0, m, nd, h1, h2, hk => by
    simp at h1 h2; subst h1; subst h2
    show bindL kindOf ((p, w) :: P.zip vs) m p = _
    unfold bindL
    rw [bindL_out fun v hv => (List.nodup_cons.mp nd).1 (List.of_mem_zip hv).1, if_pos hk]
    simp
  | p :: P, w :: vs, i + 1, m, nd, h1, h2, hk => by
    show bindL kindOf ((p, w) :: P.zip vs) m x = _
    unfold bindL
    exact bindL_get (i := i) (List.nodup_cons.mp nd).2 (by simpa using h1) (by simpa using h2) hk
theorem bindC_get {kindOf : Str → Option NameKind} {x : Str} {v : Value} : ∀ {P : List Str} {vs : List Value} {i : Nat} {m : Str → Option Value}, P.Nodup → P[i]? = some x → vs[i]? = some v → kindOf x ≠ some .local →
    bindC kindOf (P.zip vs) m x = some v
  | [], _, _, _, _, h, _, _ => by simp at h
  | _ :: _, [], _, _, _, _, h, _ => by simp at h
  | p :: P, w :: vs, 0, m, nd, h1, h2, hk => by
    simp at h1 h2; subst h1; subst h2
    show bindC kindOf ((p, w) :: P.zip vs) m p = _
    unfold bindC
    rw [bindC_out fun v hv => (List.nodup_cons.mp nd).1 (List.of_mem_zip hv).1, if_neg hk]
    simp
  | p :: P, w :: vs, i + 1, m, nd, h1, h2, hk => by
    show bindC kindOf ((p, w) :: P.zip vs) m x = _
    unfold bindC
    exact bindC_get (i := i) (List.nodup_cons.mp nd).2 (by simpa using h1) (by simpa using h2) hk
def start (N : List Str) (vs : List V) : St := vs.map some ++ List.replicate (N.length - vs.length) none
def cxOf (CX : CXT) (P : Program) (w : World) (K : PySem.W.Frag) (mg : Str → Option Value) (base : Heap) (N : List Str) (qual : Str) (scope : Scope) (f : Addr) (cd : Value) (A : Around) (outer : List Env) (s : Shared) (H : Hp) (E : XK) : Cx where
  prog := P
  w := w
  K := K
  mg := mg
  base := base
  A := A.deeper (envOfC qual scope s.heap.objs.size f cd)
  N := N
  s₀ := s
  H₀ := H
  env := envOfC qual scope s.heap.objs.size f cd
  outer := outer
  stack := envOfC qual scope s.heap.objs.size f cd :: outer
  ex := []
  calm := true
  fn := fun _ => true
  pn := []
  xe := fun e s' => wpAny (model P w) (A.deeper (envOfC qual scope s.heap.objs.size f cd)) (leaving (envOfC qual scope s.heap.objs.size f cd) e) (fun _ s'' => CX outer H s E e s'') (fun e' s'' => CX outer H s E e' s'') s'
theorem cell_has {sc : Scope} {n : Nat} {x : Str} (h : sc.names.lookup x = some .cell) : ∃ c, (cellsFrom n sc.names []).lookup x = some c := by
  have q := PySem.W.cellsFrom_some sc.names n [] (.inl h)
  exact Option.isSome_iff_exists.mp q
theorem inv_start {CX : CXT} {P : Program} {w : World} {K : PySem.W.Frag} {mg : Str → Option Value} {base : Heap} {N ps : List Str} {qual : Str} {scope : Scope} {f : Addr} {cd : Value} {A : Around} {outer : List Env} {s s1 : Shared} {H : Hp} {E : XK} {us : List Value} {vs : List V}
    (S : FnScope N ps scope) (hd : A.handled = none) (e0 : Env0 P w K mg base A outer s H) (hl : vs.length = ps.length) (r : Vals vs us)
    (x : InCallC s s.heap.objs.size (bindL (envOfC qual scope s.heap.objs.size f cd).kindOf (ps.zip us) fun _ => none) (cellsFrom (s.heap.objs.size + 1) scope.names []) (bindC (envOfC qual scope s.heap.objs.size f cd).kindOf (ps.zip us) fun _ => none) s1) :
    Inv (cxOf CX P w K mg base N qual scope f cd A outer s H E) [] (start N vs) H s1 := by
  have hpl : ps.length ≤ N.length := by have := congrArg List.length S.pre; rw [List.length_take] at this; omega
  obtain ⟨h1, tk, rfl, hk⟩ := x.done
  have noA : ∀ b : Addr, b ∉ (cxOf CX P w K mg base N qual scope f cd A outer s H E).ex := fun b z => absurd (show b ∈ ([] : List Addr) from z) (by simp)
  refine ⟨⟨e0.mod, S.kind, rfl, rfl, Nat.le_refl _, fun y z c h1 h2 => ?_, fun y hy => ?_, fun y c _ h => ?_, fun _ => hd, Around.frames_deeper e0.frames, .inr ⟨rfl, rfl⟩, fun b z => absurd z (noA b), e0.bs, e0.bsz, fun b _ _ => noA b, fun b z => absurd z (noA b), e0.funs, e0.frf⟩,
    rfl, e0.bare, Un.kept hk, ⟨_, x.toInCall.ns, fun i y v h1 h2 h3 => ?_⟩, fun y c h => ⟨_, x.cell y c h⟩, e0.hok.fresh (Nat.le_refl _), fun y c h => ?_, fun p hp => absurd (show p ∈ ([] : List (Addr × Obj)) from hp) (by simp), e0.hok.kept hk, ?_⟩
  · exact name_of_addr x.apart (PySem.mem_of_lookup h1) (PySem.mem_of_lookup h2)
  · have hy : scope.names.lookup y = some .cell ∨ scope.names.lookup y = some .free := hy
    rcases hy with hy | hy
    · exact cell_has hy
    · exact absurd rfl (S.nofree _ (PySem.mem_of_lookup hy))
  · exact Nat.le_of_lt (x.above y c (PySem.mem_of_lookup h))
  · have hi : i < vs.length := by
      unfold start at h2
      by_cases hi : i < vs.length
      · exact hi
      · rw [List.getElem?_append_right (by simpa using hi)] at h2
        rw [List.getElem?_replicate] at h2
        split at h2 <;> cases h2
    have ha : vs[i]? = some v := by
      unfold start at h2
      rw [List.getElem?_append_left (by simpa using hi), List.getElem?_map] at h2
      cases e : vs[i]? with
      | none => rw [e] at h2; cases h2
      | some a => rw [e] at h2; cases h2; rfl
    obtain ⟨u, hu, rv⟩ := r.get ha
    have hp : ps[i]? = some y := by
      rw [← S.pre, List.getElem?_take_of_lt (by omega)]; exact h1
    have ndP : ps.Nodup := by rw [← S.pre]; exact S.nd.sublist (List.take_sublist _ _)
    refine ⟨u, rv, ?_⟩
    rcases S.par y (List.mem_of_getElem? hp) with k | k
    · exact .inl ⟨k, bindL_get ndP hp hu k⟩
    · obtain ⟨c, e⟩ := cell_has (n := s.heap.objs.size + 1) k
      refine .inr ⟨.inl k, c, e, ?_⟩
      have q := x.cell y c e
      rw [bindC_get ndP hp hu (by show scope.names.lookup y ≠ _; rw [k]; decide)] at q
      exact q
  · exact e0.hok.fresh (Nat.le_of_lt (x.above y c (PySem.mem_of_lookup h)))
  · unfold start
    show _ = N.length
    rw [List.length_append, List.length_map, List.length_replicate]
    omega
theorem fn_of {CX : CXT} {P : Program} {w : World} {K : PySem.W.Frag} {mg : Str → Option Value} {base : Heap} {k : Nat} {f : Addr} {name qual : Str} {params : Arguments} {body : List Stmt} {scope : Scope} {dV kV doc pm cdv ct oc : Value} {an od : Option Addr}
    {osl : Array (Option Value)} {N ps : List Str} {sp : Sp} (lk : K.lookup f = some ⟨oc, od, .func (PySem.W.fnOf name qual params body scope dV kV doc pm an cdv ct), osl⟩) (hcd : PySem.W.codeIn K cdv qual = true) (S : FnScope N ps scope)
    (len : ∀ vs H Q E, sp vs H Q E → vs.length = ps.length)
    (hbody : ∀ (A : Around) (outer : List Env) (s : Shared) (H : Hp) (vs : List V) (Q : VK) (E : XK), Room k (A.deeper (envOfC qual scope s.heap.objs.size f cdv)) → sp vs H Q E →
      ∃ t, PSs (cxOf CX P w K mg base N qual scope f cdv A outer s H E) body t ∧ t { nx := fun _ H' => Q .non H', rt := Q } (start N vs) H) :
    FnOk P w K mg base CX (k + 1) f (PySem.W.fnOf name qual params body scope dV kV doc pm an cdv ct) ps sp := by
  refine ⟨len, fun A outer s H args us vs Q E hr e0 hb r hsp => ?_⟩
  have hl := len _ _ _ _ hsp
  have KX : K.In s.heap := e0.mod.kin.keeps fun b o e => (e0.bs b o e).1
  have lim : s.heap.NoLimit := e0.mod.nolimit.keeps fun b o e => (e0.bs b o e).1
  have hkind : ∀ y ∈ ps.zip us, scope.names.lookup y.1 = some .local ∨ (scope.names.lookup y.1 = some .cell ∧ ((cellsFrom (s.heap.objs.size + 1) scope.names []).lookup y.1).isSome = true) := fun ⟨n, v⟩ hy => by
    rcases S.par n (List.of_mem_zip hy).1 with q | q
    · exact .inl q
    · exact .inr ⟨q, PySem.W.cellsFrom_some _ _ _ (.inl q)⟩
  refine codeAny_call_function hr.depth (KX _ _ lk) rfl S.co S.gen rfl (PySem.W.codeRec_of KX hcd) (hb _ _ _ _ ?_)
  refine wpAny_newFunctionEnv_cells S.kind hkind fun env he s1 x => ?_
  subst he
  refine ⟨lim.keeps x.toInCall.keep, codeAny_func ?_⟩
  obtain ⟨t, ht, hq⟩ := hbody A outer s H vs Q E (hr.deeper _) hsp
  have I : Inv (cxOf CX P w K mg base N qual scope f cdv A outer s H E) [] (start N vs) H s1 := inv_start S hr.hd e0 hl r x
  refine wpAny_mono (ht [] s1 (start N vs) H _ I hq) (fun fl s' hs => ?_) fun e s' hs => hs
  have fin : ∀ {σ' : St} {H' : Hp} {v : V} {u : Value}, Inv (cxOf CX P w K mg base N qual scope f cdv A outer s H E) [] σ' H' s' → RelV v u → Q v H' → CE outer P w H s Q u s' :=
    fun {σ' H' v u} J rv q => ⟨v, H', J.os, J.bare, J.base, J.hok, rv, q⟩
  cases fl with
  | ret u =>
    obtain ⟨v, σ', H', J, rv, q⟩ := hs
    exact fin J rv q
  | next =>
    obtain ⟨σ', H', J, q⟩ := hs
    exact fin (v := V.non) (u := Value.none) J rfl q
  | brk =>
    obtain ⟨_, _, _, q⟩ := hs
    exact False.elim q
  | cont =>
    obtain ⟨_, _, _, q⟩ := hs
    exact False.elim q
end L2
namespace L2
open PySem PySem.Spec PyProof.Rows
section
variable {X : Cx} {x : Str} {p pos : Pos} {e : Expr} {es : List Expr} {t : TA} {id T : String} {r : List V → Hp → VK → Prop}
def tCB (r : List V → Hp → VK → Prop) (t : TA) : TE := fun σ H Q => t σ H fun vs H1 => r vs H1 Q
theorem pe_callB (hc : CallR X (.builtin id) r) (hg : Gl X x) (hm : X.mg x = none) (hv : bootBuiltins x = some (.builtin id)) (ha : PA X (e :: es) t) (hn : x ≠ "__name__" := by decide) (hdb : (x == ("__debug__" : Str)) = false := by decide)
    (he : starEach (e :: es) X.env = (false, eval e X.env) :: starEach es X.env := by rfl) (hpl : (backTo pos (starEach es X.env)).any (·.1) = false := by rfl) : PE X (.Call (.Name x p) (e :: es) [] pos) (tCB r t) := by
  intro pins s σ H Q I h
  refine wpAny_Call_Name_kw (ld_blt I hg hm hv ?_ hn hdb)
  exact PyProof.Rows.callWith_builtin1 (thn (ha pos pins s σ H _ I h) fun us s1 ⟨vs, H1, I1, r1, q1⟩ => hc pins s1 σ H1 vs us Q I1 r1 q1) he hpl
theorem pe_callTy (hc : CallR X (.type T) r) (hg : Gl X x) (hm : X.mg x = none) (hv : bootBuiltins x = some (.type T)) (ha : PA X (e :: es) t) (hn : x ≠ "__name__" := by decide) (hdb : (x == ("__debug__" : Str)) = false := by decide)
    (he : starEach (e :: es) X.env = (false, eval e X.env) :: starEach es X.env := by rfl) (hpl : (backTo pos (starEach es X.env)).any (·.1) = false := by rfl) : PE X (.Call (.Name x p) (e :: es) [] pos) (tCB r t) := by
  intro pins s σ H Q I h
  refine wpAny_Call_Name_kw (ld_blt I hg hm hv ?_ hn hdb)
  exact PyProof.Rows.callWith_type1 (thn (ha pos pins s σ H _ I h) fun us s1 ⟨vs, H1, I1, r1, q1⟩ => hc pins s1 σ H1 vs us Q I1 r1 q1) he hpl
end
end L2
namespace HT
open PySem PyProof.Rows
def lexLt : List Int → List Int → Bool
  | [], [] => false
  | [], _ :: _ => true
  | _ :: _, [] => false
  | x :: xs, y :: ys => if x = y then lexLt xs ys else decide (x < y)
theorem eqAt_int (A : Around) (s : Shared) (a : Int) (t : Tok) (c : Int) (u : Tok) : ∃ e, SeqAt.EqAt A s (.int a t) (.int c u) e ∧ (e = true ↔ a = c) :=
  ⟨(a == c), SeqAt.EqAt.int_int a t c u, by simp⟩
section
open PySem.SeqAt
open PySem.AutoSeq1 (wpAny_loadPart')
open PySem.MeetsSeq PySem.MeetsSeq2 PySem.MeetsSeq3
end
section
variable {prog : Program} {w : World} {A : Around} {E : Value → Shared → Prop} {s : Shared}
def sIx (n d : Nat) : Option Int → Nat
  | none => d
  | some v => if v < 0 then (v + (n : Int)).toNat else min v.toNat n
end
end HT
namespace L2
open PySem PySem.Spec PyProof.Rows
abbrev TO := St → Hp → (Option Int → Hp → Prop) → Prop
def PO (X : Cx) (e : Option Expr) (t : TO) : Prop :=
  ∀ (pins : List (Addr × Obj)) (s : Shared) (σ : St) (H : Hp) (Q : Option Int → Hp → Prop), Inv X pins σ H s → t σ H Q →
    wpAny (model X.prog X.w) X.A (evalPart e X.env) (fun u s' => ∃ o H', Inv X pins σ H' s' ∧ IsPart u o ∧ Q o H') X.xe s
def tNoPart : TO := fun _ H Q => Q none H
def tPart (t : TE) : TO := fun σ H Q => t σ H fun x H1 => ∃ i, x = .int i ∧ Q (some i) H1
theorem intsAre_of {ns : List Int} : ∀ {us : List Value}, Vals (ns.map V.int) us → IntsAre us ns := by
  induction ns with
  | nil => intro us r; rw [List.map_nil] at r; cases r; exact .nil
  | cons n ns ih =>
    intro us r
    rw [List.map_cons] at r
    cases r with
    | cons r1 r2 =>
      obtain ⟨t, e⟩ := r1
      subst e
      exact .cons n t (ih r2)
section
variable {X : Cx} {e : Expr} {te : TE} {lo hi : Option Expr} {tl th : TO} {pos p2 : Pos}
theorem po_none : PO X none tNoPart := by
  intro pins s σ H Q I h
  rw [evalPart_none]
  exact wpAny_pure ⟨none, H, I, .none, h⟩
theorem po_some (h : PE X e te) : PO X (some e) (tPart te) := by
  intro pins s σ H Q I hw
  rw [evalPart_some]
  refine thn (h pins s σ H _ I hw) fun u s1 ⟨x, H1, I1, r1, q1⟩ => ?_
  obtain ⟨i, rfl, q⟩ := q1
  obtain ⟨t, rfl⟩ := r1
  exact ⟨some i, H1, I1, .int i t, q⟩
def SlR (X : Cx) (r : V → Option Int → Option Int → Hp → VK → Prop) : Prop :=
  ∀ (pins : List (Addr × Obj)) (s : Shared) (σ : St) (H : Hp) (x : V) (v vl vu : Value) (lo hi : Option Int) (sl : Addr) (Q : VK), Inv X pins σ H s → RelV x v → s.heap.IsSliceOf sl vl vu .none → IsPart vl lo → IsPart vu hi → r x lo hi H Q →
    ∃ T id, typeLookup (.type T) "__getitem__" = pure (some (.builtin id)) ∧ s.TypeIs v T ∧ wpAny (model X.prog X.w) X.A (getItem v (.ref sl)) (EP X pins σ Q) X.xe s
theorem SlR.or {r r' : V → Option Int → Option Int → Hp → VK → Prop} (h : SlR X r) (h' : SlR X r') : SlR X (fun x lo hi H Q => r x lo hi H Q ∨ r' x lo hi H Q) := by
  intro pins s σ H x v vl vu lo hi sl Q I rx hs pl pu q
  rcases q with q | q
  · exact h pins s σ H x v vl vu lo hi sl Q I rx hs pl pu q
  · exact h' pins s σ H x v vl vu lo hi sl Q I rx hs pl pu q
def tSl (r : V → Option Int → Option Int → Hp → VK → Prop) (te : TE) (tl th : TO) : TE := fun σ H Q => te σ H fun x H1 => tl σ H1 fun l H2 => th σ H2 fun u H3 => r x l u H3 Q
theorem pe_slice {r : V → Option Int → Option Int → Hp → VK → Prop} (hr : SlR X r) (he : PE X e te) (hl : PO X lo tl) (hu : PO X hi th) : PE X (.Subscript e (.Slice lo hi none p2) pos) (tSl r te tl th) := by
  intro pins s σ H Q I h
  refine Subscript_ (thn (he pins s σ H _ I h) fun v s1 ⟨x, H1, I1, r1, q1⟩ => ?_)
  refine wpAny_Slice (thn (hl pins s1 σ H1 _ I1 q1) fun vl s2 ⟨l, H2, I2, pl, q2⟩ => thn (hu pins s2 σ H2 _ I2 q2) fun vu s3 ⟨u, H3, I3, pu, q3⟩ => ?_)
  rw [evalPart_none]
  refine wpAny_pure ?_
  have I4 : Inv X pins σ H3 { s3 with heap := s3.heap.push { cls := .type "slice", data := .fields #[vl, vu, .none] } } := I3.kept (t' := s3.toks) fun b ob q => Heap.get?_push_of_some _ q
  obtain ⟨T, id, hT, ht, hg⟩ := hr pins { s3 with heap := s3.heap.push { cls := .type "slice", data := .fields #[vl, vu, .none] } } σ H3 x v vl vu l u s3.heap.objs.size Q I4 r1 (Heap.IsSliceOf.new ..) pl pu q3
  show wpAny (model X.prog X.w) X.A (subscriptTail e (.Slice lo hi none p2) v (.ref s3.heap.objs.size)) (EP X pins σ Q) X.xe { s3 with heap := s3.heap.push { cls := .type "slice", data := .fields #[vl, vu, .none] } }
  exact tail_any (ops := [.ref s3.heap.objs.size, v]) ht hT hg (by with_unfolding_all rfl)
def cutV (xs : List V) (lo hi : Option Int) : List V := (xs.drop (HT.sIx xs.length 0 lo)).take (HT.sIx xs.length xs.length hi - HT.sIx xs.length 0 lo)
theorem cutV_length (xs : List V) (lo hi : Option Int) : (cutV xs lo hi).length ≤ xs.length := by
  unfold cutV
  rw [List.length_take, List.length_drop]
  omega
def rSlT (K : PySem.W.Frag) : V → Option Int → Option Int → Hp → VK → Prop := fun x lo hi H Q => ∃ a xs, x = .ref a ∧ SqT K H a xs ∧
  ¬ (HT.sIx xs.length 0 lo = 0 ∧ HT.sIx xs.length xs.length hi = xs.length) ∧ ∀ p, H p = none → Q (.ref p) (upd H p (.tup (cutV xs lo hi)))
def rLtT (K : PySem.W.Frag) : R2 := fun x y H Q => ∃ a b ns ms, x = .ref a ∧ y = .ref b ∧ SqT K H a (ns.map V.int) ∧ SqT K H b (ms.map V.int) ∧ Q (.bl (HT.lexLt ns ms)) H
def rCatT (K : PySem.W.Frag) : R2 := fun x y H Q => ∃ a b xs ys, x = .ref a ∧ y = .ref b ∧ SqT K H a xs ∧ SqT K H b ys ∧ xs ≠ [] ∧ xs.length + ys.length ≤ sizeLine ∧
  (ys = [] → Q (.ref a) H) ∧ (ys ≠ [] → ∀ p, H p = none → Q (.ref p) (upd H p (.tup (xs ++ ys))))
end
end L2
namespace L2
open PySem PySem.Spec PyProof.Rows
def ixN (n : Nat) (i : Int) : Option Nat := if 0 ≤ i then (if i < n then some i.toNat else none) else if -(n : Int) ≤ i then some (i + n).toNat else none
def atI {α : Type} (xs : List α) (i : Int) : Option α := (ixN xs.length i).bind fun j => xs[j]?
theorem ixN_seq {n : Nat} {i : Int} {j : Nat} (h : ixN n i = some j) : seqIndex? i n = some j ∧ j < n ∧ -(n : Int) ≤ i ∧ i < n := by
  unfold ixN at h
  by_cases h0 : 0 ≤ i
  · rw [if_pos h0] at h
    by_cases h1 : i < n
    · rw [if_pos h1] at h
      have e : i.toNat = j := Option.some.inj h
      exact ⟨by rw [seqIndex_of h0 h1, e], by omega, by omega, h1⟩
    · rw [if_neg h1] at h; cases h
  · rw [if_neg h0] at h
    by_cases h1 : -(n : Int) ≤ i
    · rw [if_pos h1] at h
      have e : (i + n).toNat = j := Option.some.inj h
      exact ⟨by rw [seqIndex_neg (by omega) h1, e], by omega, h1, by omega⟩
    · rw [if_neg h1] at h; cases h
theorem atI_get {α : Type} {xs : List α} {i : Int} {v : α} (h : atI xs i = some v) : ∃ j, seqIndex? i xs.length = some j ∧ xs[j]? = some v ∧ j < xs.length ∧ -(xs.length : Int) ≤ i ∧ i < xs.length := by
  unfold atI at h
  cases e : ixN xs.length i with
  | none => rw [e] at h; cases h
  | some j =>
    rw [e] at h
    obtain ⟨h1, h2, h3, h4⟩ := ixN_seq e
    exact ⟨j, h1, h, h2, h3, h4⟩
theorem atI_nat {α : Type} {xs : List α} {j : Nat} {v : α} (h : xs[j]? = some v) : atI xs (j : Int) = some v := by
  have hj : j < xs.length := (List.getElem?_eq_some_iff.mp h).1
  have e : ixN xs.length (j : Int) = some j := by
    unfold ixN
    rw [if_pos (by omega), if_pos (by omega)]; simp
  unfold atI; rw [e]; exact h
theorem atI_last {α : Type} (xs : List α) (v : α) : atI (xs ++ [v]) (-1) = some v := by
  have hl : (xs ++ [v]).length = xs.length + 1 := by simp
  have e : ixN (xs ++ [v]).length (-1) = some xs.length := by
    unfold ixN
    rw [hl, if_neg (by decide), if_pos (by omega)]
    congr 1
    omega
  unfold atI
  rw [e]
  show (xs ++ [v])[xs.length]? = some v
  simp
def PlainIx (b : Expr) : Prop := ∀ o i, subscripted b false o i = operate [o, i] (getItem o i)
def IxR (X : Cx) (r : R2) : Prop :=
  ∀ (value slice : Expr) (pins : List (Addr × Obj)) (s : Shared) (σ : St) (H : Hp) (x y : V) (v u : Value) (Q : VK), Inv X pins σ H s → RelV x v → RelV y u → r x y H Q →
    subscripted slice false v u = operate [v, u] (getItem v u) → wpAny (model X.prog X.w) X.A (subscriptTail value slice v u) (EP X pins σ Q) X.xe s
def MtR (X : Cx) (id : String) (r : V → List V → Hp → VK → Prop) : Prop :=
  ∀ (pins : List (Addr × Obj)) (s : Shared) (σ : St) (H : Hp) (x : V) (xs : List V) (v : Value) (us : List Value) (Q : VK), Inv X pins σ H s → RelV x v → Vals xs us → r x xs H Q →
    wpAny (model X.prog X.w) X.A (call (.builtin id) (v :: us)) (EP X pins σ Q) X.xe s
section
variable {X : Cx} {a b : Expr} {ta tb : TE} {pos : Pos}
theorem IxR.or {r r' : R2} (h : IxR X r) (h' : IxR X r') : IxR X (fun x y H Q => r x y H Q ∨ r' x y H Q) := by
  intro value slice pins s σ H x y v u Q I rx ry q hs
  rcases q with q | q
  · exact h value slice pins s σ H x y v u Q I rx ry q hs
  · exact h' value slice pins s σ H x y v u Q I rx ry q hs
theorem MtR.or {id : String} {r r' : V → List V → Hp → VK → Prop} (h : MtR X id r) (h' : MtR X id r') : MtR X id (fun x xs H Q => r x xs H Q ∨ r' x xs H Q) := by
  intro pins s σ H x xs v us Q I rx rs q
  rcases q with q | q
  · exact h pins s σ H x xs v us Q I rx rs q
  · exact h' pins s σ H x xs v us Q I rx rs q
theorem pe_ix {r : R2} (hr : IxR X r) (ha : PE X a ta) (hb : PE X b tb) (hs : PlainIx b) : PE X (.Subscript a b pos) (tOp r ta tb) := by
  intro pins s σ H Q I h
  exact Subscript_ (binT ha hb I h fun v u s2 x y H2 I2 rx ry q => hr a b pins s2 σ H2 x y v u Q I2 rx ry q (hs _ _))
def rIxL (K : PySem.W.Frag) : R2 := fun x y H Q => ∃ p xs i v, x = .ref p ∧ y = .int i ∧ SqL K H p xs ∧ atI xs i = some v ∧ Q v H
def rIxT (K : PySem.W.Frag) : R2 := fun x y H Q => ∃ p xs i v, x = .ref p ∧ y = .int i ∧ SqT K H p xs ∧ atI xs i = some v ∧ Q v H
def rIxS : R2 := fun x y H Q => ∃ z i c, x = .str z ∧ y = .int i ∧ z.length ≤ sizeLine ∧ atI z.cps.toList i = some c ∧ Q (.str ⟨#[c]⟩) H
theorem ix_list : IxR X (rIxL X.K) := by
  intro value slice pins s σ H x y v u Q I rx ry h hs
  obtain ⟨p, xs, i, z, rfl, rfl, hq, he, q⟩ := h
  cases rx
  obtain ⟨t, rfl⟩ := ry
  obtain ⟨its, r, pl, hz⟩ := I.list hq
  obtain ⟨j, h1, h2, h3, h4, h5⟩ := atI_get he
  obtain ⟨w, ew, rw'⟩ := r.get h2
  have hl := r.length
  have hn := line63
  have fin : EP X pins σ Q w s := ⟨z, H, I, rw', q⟩
  by_cases h0 : 0 ≤ i
  · have hj : i.toNat = j := by
      rw [seqIndex_of h0 h5] at h1
      exact Option.some.inj h1
    exact item_listR pl.isList h0 (by omega) (by rw [hj]; simpa using ew) fin hs
  · have hj : (i + (its.toArray.size : Int)).toNat = j := by
      rw [seqIndex_neg (by omega) h4] at h1
      rw [List.size_toArray, ← hl]
      exact Option.some.inj h1
    exact subscriptTail_builtinR (x := w) pl.isList.typeIs slot_list_getitem.lookup
      (wpAny_getItem_list_neg (Q := fun r s' => r = w ∧ EP X pins σ Q r s') pl.isList (by omega) (by rw [List.size_toArray] <;> omega) (by omega) (by rw [hj]; simpa using ew) ⟨rfl, fin⟩) hs
theorem ix_tup : IxR X (rIxT X.K) := by
  intro value slice pins s σ H x y v u Q I rx ry h hs
  obtain ⟨p, xs, i, z, rfl, rfl, hq, he, q⟩ := h
  cases rx
  obtain ⟨t, rfl⟩ := ry
  obtain ⟨its, r, pl, hz⟩ := I.tuple hq
  obtain ⟨j, h1, h2, h3, h4, h5⟩ := atI_get he
  obtain ⟨w, ew, rw'⟩ := r.get h2
  have hl := r.length
  have hn := line63
  have fin : EP X pins σ Q w s := ⟨z, H, I, rw', q⟩
  exact subscriptTail_builtinR (x := w) pl.typeIs slot_tuple_getitem.lookup
    (getItem_tuple (j := j) (Q := fun r s' => r = w ∧ EP X pins σ Q r s') pl (by omega) (by omega) (by rw [List.size_toArray, ← hl]; exact h1) (by simpa using ew) ⟨rfl, fin⟩) hs
def rIx (K : PySem.W.Frag) : R2 := fun x y H Q => rIxL K x y H Q ∨ rIxT K x y H Q ∨ rIxS x y H Q
theorem Inv.lst {pins : List (Addr × Obj)} {σ : St} {H : Hp} {s : Shared} {p : Addr} {xs : List V} (I : Inv X pins σ H s) (h : H p = some (.lst xs)) :
    ∃ (its : List Value) (n : Nat), Vals xs its ∧ s.heap.get? p = some { cls := .type "list", data := .seq its.toArray n } ∧ xs.length ≤ sizeLine := by
  obtain ⟨z, its, n, r, e⟩ := I.hok p _ h
  exact ⟨its, n, r, e, z⟩
def rSetL : V → V → V → Hp → (Hp → Prop) → Prop := fun o i v H Q => ∃ p xs k j, o = .ref p ∧ i = .int k ∧ H p = some (.lst xs) ∧ ixN xs.length k = some j ∧ Q (upd H p (.lst (xs.set j v)))
theorem slice_bounds (lo hi : Option Int) (n : Nat) : (sliceBounds lo hi none n).1 = ((HT.sIx n 0 lo : Nat) : Int) ∧ (sliceBounds lo hi none n).2.1 = ((HT.sIx n n hi : Nat) : Int) ∧ (sliceBounds lo hi none n).2.2 = 1 := by
  refine ⟨?_, ?_, rfl⟩
  · cases lo with
    | none => simp [sliceBounds, HT.sIx]
    | some i =>
      simp only [sliceBounds, HT.sIx, Option.getD_none, show (1 : Int) > 0 by decide, if_true]
      by_cases h : i < 0
      · simp only [h, if_true] <;> omega
      · simp only [h, if_false] <;> omega
  · cases hi with
    | none => simp [sliceBounds, HT.sIx]
    | some i =>
      simp only [sliceBounds, HT.sIx, Option.getD_none, show (1 : Int) > 0 by decide, if_true]
      by_cases h : i < 0
      · simp only [h, if_true] <;> omega
      · simp only [h, if_false] <;> omega
theorem slicePick_cut (its : List Value) (lo hi : Option Int) : slicePick its.toArray lo hi none = ((its.drop (HT.sIx its.length 0 lo)).take (HT.sIx its.length its.length hi - HT.sIx its.length 0 lo)).toArray := by
  obtain ⟨h1, h2, h3⟩ := slice_bounds lo hi its.toArray.size
  unfold slicePick
  rw [h1, h2, h3]
  simp only [sliceRange_one, pick_run, List.size_toArray] <;> rfl
def rSlL (K : PySem.W.Frag) : V → Option Int → Option Int → Hp → VK → Prop := fun x lo hi H Q => ∃ a xs, x = .ref a ∧ SqL K H a xs ∧ ∀ p, H p = none → Q (.ref p) (upd H p (.lst (cutV xs lo hi)))
theorem sl_list : SlR X (rSlL X.K) := by
  intro pins s σ H x v vl vu lo hi sl Q I rx hs pl pu h
  obtain ⟨a, xs, rfl, hx, q⟩ := h
  cases rx
  obtain ⟨its, r, ht, hz⟩ := I.list hx
  have hlen := r.length
  refine ⟨"list", _, slot_list_getitem.lookup, ht.isList.typeIs, ?_⟩
  refine wpAny_getItem_list_slice ht.isList hs pl pu .none (by simp) ?_ (by rw [List.size_toArray] <;> omega)
  rw [slicePick_cut, ← hlen]
  refine ⟨.ref s.heap.objs.size, _, I.laid (t' := s.toks) (o := .lst (cutV xs lo hi)) (fun b ob q => Heap.get?_push_of_some _ q) (Nat.le_refl _) ?_, rfl, q _ (I.hok.fresh (Nat.le_refl _))⟩
  exact ⟨Nat.le_trans (cutV_length xs lo hi) hz, _, 0, (r.drop (HT.sIx xs.length 0 lo)).take (HT.sIx xs.length xs.length hi - HT.sIx xs.length 0 lo), Heap.get?_push_size _ rfl⟩
def flatV : V → Bool
  | .non => true
  | .bl _ => true
  | .int _ => true
  | .str _ => true
  | _ => false
def eqV : V → V → Bool
  | .non, .non => true
  | .bl a, .bl b => a == b
  | .bl a, .int b => (if a then 1 else 0) == b
  | .int a, .bl b => a == (if b then 1 else 0)
  | .int a, .int b => a == b
  | .str a, .str b => a == b
  | _, _ => false
theorem eqAt_V {A : Around} {s : Shared} {y x : V} {u v : Value} (ry : RelV y u) (rx : RelV x v) (fy : flatV y = true) (fx : flatV x = true) : SeqAt.EqAt A s u v (eqV y x) := by
  cases y with
  | non =>
    cases ry
    cases x with
    | non => cases rx; exact SeqAt.EqAt.same _
    | bl b => cases rx; exact SeqAt.EqAt.none_bool b
    | int b => obtain ⟨t, rfl⟩ := rx; exact SeqAt.EqAt.none_int b t
    | str b => obtain ⟨t, rfl⟩ := rx; exact SeqAt.EqAt.none_str b t
    | _ => exact absurd (show false = true from fx) Bool.false_ne_true
  | bl a =>
    cases ry
    cases x with
    | non => cases rx; exact SeqAt.EqAt.bool_none a
    | bl b => cases rx; exact SeqAt.EqAt.bool_bool a b
    | int b => obtain ⟨t, rfl⟩ := rx; exact SeqAt.EqAt.bool_int a b t
    | str b => obtain ⟨t, rfl⟩ := rx; exact SeqAt.EqAt.bool_str a b t
    | _ => exact absurd (show false = true from fx) Bool.false_ne_true
  | int a =>
    obtain ⟨t', rfl⟩ := ry
    cases x with
    | non => cases rx; exact SeqAt.EqAt.int_none a t'
    | bl b => cases rx; exact SeqAt.EqAt.int_bool a t' b
    | int b => obtain ⟨t, rfl⟩ := rx; exact SeqAt.EqAt.int_int a t' b t
    | str b => obtain ⟨t, rfl⟩ := rx; exact SeqAt.EqAt.int_str a t' b t
    | _ => exact absurd (show false = true from fx) Bool.false_ne_true
  | str a =>
    obtain ⟨t', rfl⟩ := ry
    cases x with
    | non => cases rx; exact SeqAt.EqAt.str_none a t'
    | bl b => cases rx; exact SeqAt.EqAt.str_bool a t' b
    | int b => obtain ⟨t, rfl⟩ := rx; exact SeqAt.EqAt.str_int a t' b t
    | str b => obtain ⟨t, rfl⟩ := rx; exact SeqAt.EqAt.str_str a t' b t
    | _ => exact absurd (show false = true from fx) Bool.false_ne_true
  | _ => exact absurd (show false = true from fy) Bool.false_ne_true
def eqU (x : V) (u : Value) : Bool := match u with
  | .none => eqV .non x
  | .bool b => eqV (.bl b) x
  | .int i _ => eqV (.int i) x
  | .str z _ => eqV (.str z) x
  | _ => false
theorem eqU_of {x y : V} {u : Value} (r : RelV y u) (f : flatV y = true) : eqU x u = eqV y x := by
  cases y with
  | non => cases r; rfl
  | bl b => cases r; rfl
  | int i => obtain ⟨t, rfl⟩ := r; rfl
  | str z => obtain ⟨t, rfl⟩ := r; rfl
  | _ => exact absurd (show false = true from f) Bool.false_ne_true
theorem any_eqU {x : V} : ∀ {xs : List V} {us : List Value}, Vals xs us → xs.all flatV = true → us.any (eqU x) = xs.any fun y => eqV y x
  | _, _, .nil, _ => rfl
  | y :: xs, u :: us, .cons r t, f => by
    rw [List.all_cons, Bool.and_eq_true] at f
    rw [List.any_cons, List.any_cons, eqU_of r f.1, any_eqU t f.2]
theorem mem_eqAt {A : Around} {s : Shared} {x : V} {v : Value} (rx : RelV x v) (fx : flatV x = true) : ∀ {xs : List V} {us : List Value}, Vals xs us → xs.all flatV = true → ∀ u ∈ us, SeqAt.EqAt A s u v (eqU x u)
  | _, _, .nil, _ => fun u hu => by cases hu
  | y :: xs, u :: us, .cons r t, f => fun u' hu => by
    rw [List.all_cons, Bool.and_eq_true] at f
    rcases List.mem_cons.mp hu with rfl | hu
    · rw [eqU_of r f.1]; exact eqAt_V r rx f.1 fx
    · exact mem_eqAt rx fx t f.2 u' hu
def inV (x : V) (xs : List V) : Bool := xs.any fun y => eqV y x
def rIn (K : PySem.W.Frag) (neg : Bool) : R2 := fun x y H Q => ∃ p xs, y = .ref p ∧ (SqL K H p xs ∨ SqT K H p xs) ∧ flatV x = true ∧ xs.all flatV = true ∧ Q (.bl (if neg then !inV x xs else inV x xs)) H
theorem op_in_seq : OpR X (compareOp .In) (rIn X.K false) := by
  intro pins s σ H x y v u Q I rx ry h
  obtain ⟨p, xs, rfl, hq, fx, fs, q⟩ := h
  cases ry
  rcases hq with hq | hq
  · obtain ⟨its, r, pl, hz⟩ := I.list hq
    refine SeqAt.in_listAt (eqU x) pl.isList (fun w hw => mem_eqAt rx fx r fs w (by simpa using hw)) ⟨.bl _, H, I, rfl, ?_⟩
    rw [show its.toArray.any (eqU x) = its.any (eqU x) by simp, any_eqU r fs]
    exact q
  · obtain ⟨its, r, pl, hz⟩ := I.tuple hq
    refine SeqAt.in_tupleAt (eqU x) pl (fun w hw => mem_eqAt rx fx r fs w (by simpa using hw)) ⟨.bl _, H, I, rfl, ?_⟩
    rw [show its.toArray.any (eqU x) = its.any (eqU x) by simp, any_eqU r fs]
    exact q
theorem call_len_seq : CallR X (.builtin "len") (fun xs H Q => ∃ p ys, xs = [.ref p] ∧ (SqL X.K H p ys ∨ SqT X.K H p ys) ∧ Q (.int ys.length) H) := by
  intro pins s σ H xs us Q I r h
  obtain ⟨p, ys, rfl, hq, q⟩ := h
  obtain ⟨u, rfl, rx⟩ := vals1 r
  cases rx
  have hn := line63
  rcases hq with hq | hq
  · obtain ⟨its, r', pl, hz⟩ := I.list hq
    have hlen := r'.length
    exact Calls.call_len_list pl.isList (by simp only [List.size_toArray] <;> omega) ⟨.int ys.length, H, I.tok _, ⟨s.toks + 1, by rw [List.size_toArray, hlen]⟩, q⟩
  · obtain ⟨its, r', pl, hz⟩ := I.tuple hq
    have hlen := r'.length
    exact len_tuple pl (by simp only [List.size_toArray] <;> omega) ⟨.int ys.length, H, I.tok _, ⟨s.toks + 1, by rw [List.size_toArray, hlen]⟩, q⟩
theorem CallR.or {f : Value} {r r' : List V → Hp → VK → Prop} (h : CallR X f r) (h' : CallR X f r') : CallR X f (fun xs H Q => r xs H Q ∨ r' xs H Q) := by
  intro pins s σ H xs us Q I rs q
  rcases q with q | q
  · exact h pins s σ H xs us Q I rs q
  · exact h' pins s σ H xs us Q I rs q
theorem call_list_of : CallR X (.type "list") (fun xs H Q => ∃ p ys, xs = [.ref p] ∧ (SqL X.K H p ys ∨ SqT X.K H p ys) ∧ ∀ l, H l = none → Q (.ref l) (upd H l (.lst ys))) := by
  intro pins s σ H xs us Q I r h
  obtain ⟨p, ys, rfl, hq, q⟩ := h
  obtain ⟨u, rfl, rx⟩ := vals1 r
  cases rx
  have fin : ∀ (its : List Value), Vals ys its → ys.length ≤ sizeLine → ∀ (h' : Heap) (c' : Nat), (∀ b o', s.heap.get? b = some o' → h'.get? b = some o') →
      h'.get? s.heap.objs.size = some { cls := .type "list", dict := none, data := .seq its.toArray c', slots := #[] } → EP X pins σ Q (.ref s.heap.objs.size) { s with heap := h' } := fun its r' hz h' c' kp e =>
    ⟨.ref s.heap.objs.size, _, I.laid (t' := s.toks) kp (Nat.le_refl _) (show ObjOk X.prog X.w _ h' _ (.lst ys) from ⟨hz, its, c', r', e⟩), rfl, q _ (I.hok.fresh (Nat.le_refl _))⟩
  rcases hq with hq | hq
  · obtain ⟨its, r', pl, hz⟩ := I.list hq
    have hlen := r'.length
    obtain ⟨o, ho, hc, n, hd⟩ := pl.isList
    exact call_list_seq p (.inl rfl) ho hc hd (fun h' c' kp e => fin its r' hz h' c' kp e) (by simp only [List.size_toArray] <;> omega)
  · obtain ⟨its, r', pl, hz⟩ := I.tuple hq
    have hlen := r'.length
    obtain ⟨o, ho, hc, n, hd⟩ := pl
    exact call_list_seq p (.inr rfl) ho hc hd (fun h' c' kp e => fin its r' hz h' c' kp e) (by simp only [List.size_toArray] <;> omega)
def tyV (K : PySem.W.Frag) (T : String) (x : V) (H : Hp) : Prop := match x with
  | .str _ => T = "str"
  | .int _ => T = "int"
  | .ref p => (T = "list" ∧ ∃ xs, SqL K H p xs) ∨ (T = "tuple" ∧ ∃ o, K.lookup p = some o ∧ o.cls = .type "tuple" ∧ o.dict = none) ∨
      (T = "dict" ∧ ((∃ kvs, H p = some (.dK kvs)) ∨ ∃ kvs, H p = some (.dT kvs))) ∨ (T = "set" ∧ ∃ S n, H p = some (.set S n))
  | _ => False
theorem tyV_is {pins : List (Addr × Obj)} {σ : St} {H : Hp} {s : Shared} {T : String} {x : V} {v : Value} (I : Inv X pins σ H s) (r : RelV x v) (ty : tyV X.K T x H) :
    s.TypeIs v T ∧ ∀ a, v = .ref a → ∃ ob, s.heap.get? a = some ob ∧ ob.dict = none := by
  cases x with
  | str z =>
    obtain ⟨t, rfl⟩ := r
    cases (show T = "str" from ty)
    exact ⟨typeIs_str s z t, fun _ e => nomatch e⟩
  | int i =>
    obtain ⟨t, rfl⟩ := r
    cases (show T = "int" from ty)
    exact ⟨typeIs_int s i t, fun _ e => nomatch e⟩
  | ref p =>
    cases r
    rcases ty with ⟨rfl, xs, hq⟩ | ⟨rfl, o, hk, hc, hd⟩ | ⟨rfl, hk⟩ | ⟨rfl, S, n, hk⟩
    · obtain ⟨its, _, pl, _⟩ := I.list hq
      refine ⟨pl.isList.typeIs, fun a e => ?_⟩
      cases e
      obtain ⟨o, n, e, c, hd, _⟩ := pl
      exact ⟨o, e, hd⟩
    · refine ⟨⟨o, I.kIn p o hk, hc⟩, fun a e => ?_⟩
      cases e
      exact ⟨o, I.kIn _ o hk, hd⟩
    · have z : ∃ o, s.heap.get? p = some o ∧ o.ExactDict := by
        rcases hk with ⟨kvs, hk⟩ | ⟨kvs, hk⟩
        · obtain ⟨_, _, _, _, o, _, _, e, ex, _⟩ := I.hok p _ hk
          exact ⟨o, e, ex⟩
        · obtain ⟨_, _, _, _, o, _, _, e, ex, _⟩ := I.hok p _ hk
          exact ⟨o, e, ex⟩
      obtain ⟨o, e, ex⟩ := z
      refine ⟨⟨o, e, ex.1⟩, fun a e2 => ?_⟩
      cases e2
      exact ⟨o, e, ex.2.1⟩
    · obtain ⟨o, _, _, _, e, ex, _⟩ := I.hok p _ hk
      refine ⟨⟨o, e, ex.1⟩, fun a e2 => ?_⟩
      cases e2
      exact ⟨o, e, ex.2.1⟩
  | _ => exact False.elim ty
def tBM0 (K : PySem.W.Frag) (T : String) (r : V → List V → Hp → VK → Prop) (to : TE) : TE := fun σ H Q => to σ H fun x H1 => tyV K T x H1 ∧ r x [] H1 Q
def tBM (K : PySem.W.Frag) (T : String) (r : V → List V → Hp → VK → Prop) (to : TE) (t : TA) : TE := fun σ H Q => to σ H fun x H1 => tyV K T x H1 ∧ t σ H1 fun xs H2 => r x xs H2 Q
variable {o e : Expr} {es : List Expr} {to : TE} {t : TA} {name : Str} {apos cpos : Pos} {T id : String} {r : V → List V → Hp → VK → Prop}
theorem pe_bm (pa : PlainAttrs T) (slot : Slot T name id) (hty : typeOf (.builtin id) = pure (.type "method_descriptor")) (hm : MtR X id r) (ho : PE X o to) (ha : PA X (e :: es) t)
    (hbase : attributeBase o name X.env (eval o X.env) = eval o X.env := by rfl)
    (hfew : ((backTo cpos (starEach (e :: es) X.env)).all (fun x => !x.1) && (backToKw cpos (keywordEach [] X.env)).all (fun x => x.1.isSome)
      && decide ((e :: es).length + ([] : List Keyword).length + (if ([] : List Keyword).isEmpty then 0 else 1) < 30)) = true := by rfl)
    (hline : (apos.endLine == cpos.line) = true := by rfl) (hs : starEach (e :: es) X.env = (false, eval e X.env) :: starEach es X.env := by rfl) (hplain : (backTo cpos (starEach es X.env)).any (·.1) = false := by rfl) :
    PE X (.Call (.Attribute o name apos) (e :: es) [] cpos) (tBM X.K T r to t) := by
  intro pins s σ H Q I h
  refine wpAny_Call_method_late hbase hfew hline rfl (thn (ho pins s σ H _ I h) fun v s1 ⟨x, H1, I1, r1, ty, q1⟩ => ?_)
  obtain ⟨h1, h2⟩ := tyV_is I1 r1 ty
  refine ⟨T, id, pa, slot, hty, h1, h2, ?_⟩
  have hA := ha cpos pins s1 σ H1 _ I1 q1
  rw [hs] at hA ⊢
  refine Calls.callWith_builtin (by show (false || (backTo cpos (starEach es X.env)).any (·.1)) = false; rw [hplain] <;> rfl) (Calls.evalArgs_plain ?_)
  exact thn hA fun us s2 ⟨vs, H2, I2, r2, q2⟩ => hm pins s2 σ H2 x vs v us Q I2 r1 r2 q2
/- xs.append(e), list.index on a module's tuple .. are MtR facts of 06m -/
end
end L2
namespace L2
open PySem PySem.Spec PyProof.Rows
def MtM (X : Cx) (id : String) (r : V → List V → Hp → VK → Prop) : Prop :=
  ∀ (pins : List (Addr × Obj)) (s : Shared) (σ : St) (H : Hp) (x : V) (xs : List V) (v : Value) (us : List Value) (Q : VK), Inv X pins σ H s → RelV x v → Vals xs us → r x xs H Q →
    wpAny (model X.prog X.w) X.A (call (.builtin id) (v :: us)) (EP X pins σ Q) X.xe s
theorem Vals.one : ∀ {x : V} {us : List Value}, Vals [x] us → ∃ u, us = [u] ∧ RelV x u
  | _, _, .cons r .nil => ⟨_, rfl, r⟩
theorem Vals.two : ∀ {x y : V} {us : List Value}, Vals [x, y] us → ∃ u v, us = [u, v] ∧ RelV x u ∧ RelV y v
  | _, _, _, .cons r (.cons q .nil) => ⟨_, _, rfl, r, q⟩
theorem Vals.zero : ∀ {us : List Value}, Vals [] us → us = []
  | _, .nil => rfl
theorem Vals.dropLast {xs : List V} {us : List Value} (h : Vals xs us) : Vals xs.dropLast us.dropLast := by
  induction h with
  | nil => exact .nil
  | cons r t ih =>
    cases t with
    | nil => exact .nil
    | cons q t' => exact .cons r ih
theorem Vals.eraseIdx : ∀ {xs : List V} {us : List Value} (i : Nat), Vals xs us → Vals (xs.eraseIdx i) (us.eraseIdx i)
  | _, _, _, .nil => .nil
  | _, _, 0, .cons _ t => t
  | _, _, i + 1, .cons r t => .cons r (Vals.eraseIdx i t)
theorem Vals.reverse {xs : List V} {us : List Value} (h : Vals xs us) : Vals xs.reverse us.reverse := by
  induction h with
  | nil => exact .nil
  | cons r t ih => rw [List.reverse_cons, List.reverse_cons]; exact Vals.append ih (.cons r .nil)
section
variable {X : Cx} {pins : List (Addr × Obj)} {σ : St} {H : Hp} {s : Shared} {l b : Addr} {xs ys zs : List V}
theorem Inv.lset {its its' : List Value} {n : Nat} {f : Array Value → Array Value} {t' : Nat} (I : Inv X pins σ H s) (hH : H l = some (.lst xs))
    (e : s.heap.get? l = some { cls := .type "list", data := .seq its.toArray n }) (hf : f its.toArray = its'.toArray) (hv : Vals ys its') (hz : ys.length ≤ sizeLine) :
    Inv X pins σ (upd H l (.lst ys)) { s with heap := s.heap.update l (Obj.mapSeq f), toks := t' } := by
  have q := PySem.IsL.update e f
  rw [hf] at q
  refine I.write (x := l) (e := l) (by rw [hH]; exact trivial) (.inl rfl) (fun b' u hb hu => (Heap.get?_update_other s.heap (Obj.mapSeq f) (Ne.symm hb)).trans hu) ⟨_, q⟩ ?_
  exact ⟨hz, its', _, hv, q⟩
theorem Inv.lnew {its : List Value} {t' : Nat} (I : Inv X pins σ H s) (hv : Vals ys its) (hz : ys.length ≤ sizeLine) :
    Inv X pins σ (upd H s.heap.objs.size (.lst ys)) { s with heap := s.heap.push { cls := .type "list", data := .seq its.toArray }, toks := t' } :=
  I.laid (fun _ _ q => Heap.get?_push_of_some _ q) (Nat.le_refl _) ⟨hz, its, 0, hv, Heap.get?_push_size _ rfl⟩
theorem Inv.fresh (I : Inv X pins σ H s) : H s.heap.objs.size = none := I.hok.fresh (Nat.le_refl _)
theorem Inv.lstM (I : Inv X pins σ H s) (hH : H l = some (.lst xs)) : xs.length ≤ sizeLine ∧ ∃ (its : List Value) (n : Nat), Vals xs its ∧ xs.length = its.length ∧ s.heap.get? l = some { cls := .type "list", data := .seq its.toArray n } := by
  obtain ⟨z, its, n, r, e⟩ := I.hok l _ hH
  exact ⟨z, its, n, r, r.length, e⟩
theorem notLongL {n : Nat} (h : n ≤ sizeLine) : Builtin.List.listTooLong n = false := by
  unfold Builtin.List.listTooLong
  exact decide_eq_false (by omega)
end
section
variable {X : Cx}
def rAppend : V → List V → Hp → VK → Prop := fun x vs H Q => ∃ l xs y, x = .ref l ∧ vs = [y] ∧ H l = some (.lst xs) ∧ xs.length < sizeLine ∧ Q .non (upd H l (.lst (xs ++ [y])))
theorem mt_append : MtM X "list.append" rAppend := by
  intro pins s σ H x vs v us Q I rx rv h
  obtain ⟨l, xs, y, rfl, rfl, hH, hz, q⟩ := h
  cases rx
  obtain ⟨u, rfl, ru⟩ := rv.one
  obtain ⟨z, its, n, r, hl, e⟩ := I.lstM hH
  refine call_meets F.slot_list_append ⟨_, e, rfl⟩ F.entry_list_append (F.args_list_append_2 _ _) (PySem.list_append l its.toArray n u (by rw [List.size_toArray]; omega)) ⟨e, ?_⟩
  refine ⟨.non, _, I.lset (its' := its ++ [u]) hH e (by simp) (r.append (.cons ru .nil)) ?_, rfl, q⟩
  rw [List.length_append, List.length_singleton]
  omega
def rExtend : V → List V → Hp → VK → Prop := fun x vs H Q => ∃ l b xs zs, x = .ref l ∧ vs = [.ref b] ∧ H l = some (.lst xs) ∧ H b = some (.lst zs) ∧ xs.length + zs.length ≤ sizeLine ∧ Q .non (upd H l (.lst (xs ++ zs)))
theorem mt_extend : MtM X "list.extend" rExtend := by
  intro pins s σ H x vs v us Q I rx rv h
  obtain ⟨l, b, xs, zs, rfl, rfl, hH, hB, hz, q⟩ := h
  cases rx
  obtain ⟨u, rfl, ru⟩ := rv.one
  cases ru
  obtain ⟨z, its, n, r, hl, e⟩ := I.lstM hH
  obtain ⟨z2, its2, n2, r2, hl2, e2⟩ := I.lstM hB
  have hsz : its.toArray.size + its2.toArray.size ≤ sizeLine := by rw [List.size_toArray, List.size_toArray]; omega
  have hlong : ¬ (!its.toArray.isEmpty && Builtin.List.listTooLong (its.toArray.size + its2.toArray.size)) = true := by
    rw [notLongL hsz, Bool.and_false]
    exact Bool.false_ne_true
  refine call_meets F.slot_list_extend ⟨_, e, rfl⟩ F.entry_list_extend (F.args_list_extend_2 _ _)
    (AutoSeq1.list_extend_list_list_0 l its.toArray n b its2.toArray n2 hlong (by rw [List.size_toArray]; omega) (by omega)) ⟨e, e2, ?_⟩
  refine ⟨.non, _, I.lset (its' := its ++ its2) hH e (by simp) (r.append r2) ?_, rfl, q⟩
  rw [List.length_append]
  omega
def rPop : V → List V → Hp → VK → Prop := fun x vs H Q => ∃ l xs y, x = .ref l ∧ vs = [] ∧ H l = some (.lst xs) ∧ xs[xs.length - 1]? = some y ∧ Q y (upd H l (.lst xs.dropLast))
def rPopAt : V → List V → Hp → VK → Prop := fun x vs H Q => ∃ l xs i k y, x = .ref l ∧ vs = [.int i] ∧ H l = some (.lst xs) ∧ -(2 ^ 63) ≤ i ∧ i < 2 ^ 63 ∧ seqIndex? i xs.length = some k ∧ xs[k]? = some y ∧ Q y (upd H l (.lst (xs.eraseIdx k)))
def rReverse : V → List V → Hp → VK → Prop := fun x vs H Q => ∃ l xs, x = .ref l ∧ vs = [] ∧ H l = some (.lst xs) ∧ Q .non (upd H l (.lst xs.reverse))
def rClear : V → List V → Hp → VK → Prop := fun x vs H Q => ∃ l xs, x = .ref l ∧ vs = [] ∧ H l = some (.lst xs) ∧ Q .non (upd H l (.lst []))
def rCat : R2 := fun x y H Q => ∃ l b xs zs, x = .ref l ∧ y = .ref b ∧ H l = some (.lst xs) ∧ H b = some (.lst zs) ∧ xs.length + zs.length ≤ sizeLine ∧ ∀ p, H p = none → Q (.ref p) (upd H p (.lst (xs ++ zs)))
theorem op_cat : OpR X (binaryOp .Add) rCat := by
  intro pins s σ H x y v u Q I rx ry h
  obtain ⟨l, b, xs, zs, rfl, rfl, hH, hB, hz, q⟩ := h
  cases rx
  cases ry
  obtain ⟨z, its, n, r, hl, e⟩ := I.lstM hH
  obtain ⟨z2, its2, n2, r2, hl2, e2⟩ := I.lstM hB
  refine PySem.P.add_list e e2 ?_ (by rw [List.size_toArray, List.size_toArray]; omega)
  have ea : its.toArray ++ its2.toArray = (its ++ its2).toArray := by simp
  rw [ea]
  exact ⟨.ref _, _, I.lnew (t' := s.toks) (r.append r2) (by rw [List.length_append]; omega), rfl, q _ I.fresh⟩
def rRep : R2 := fun x y H Q => ∃ l k xs, x = .ref l ∧ y = .int k ∧ H l = some (.lst xs) ∧ -(2 ^ 63) ≤ k ∧ k < 2 ^ 63 ∧ xs.length * k.toNat ≤ sizeLine ∧
  ∀ p, H p = none → Q (.ref p) (upd H p (.lst (List.replicate k.toNat xs).flatten))
end
section
variable {prog : Program} {w : World} {A : Around} {E : Value → Shared → Prop} {s : Shared}
end
section
variable {X : Cx}
end
end L2
namespace L2
open PySem PySem.Spec PyProof.Rows
section
variable {κ : Type} [DecidableEq κ]
def valV (kvs : List (κ × V)) (k : κ) : Option V := (kvs.find? fun kv => decide (kv.1 = k)).map (·.2)
def putK (kvs : List (κ × V)) (k : κ) (v : V) : List (κ × V) :=
  if (kvs.any fun kv => decide (kv.1 = k)) = true then kvs.map (fun kv => if kv.1 = k then (kv.1, v) else kv) else kvs ++ [(k, v)]
def dropK (kvs : List (κ × V)) (k : κ) : List (κ × V) := kvs.filter fun kv => decide (kv.1 ≠ k)
theorem valV_pos {p : κ × V} {r : List (κ × V)} {k : κ} (e : p.1 = k) : valV (p :: r) k = some p.2 := by simp [valV, List.find?_cons, e]
theorem valV_neg {p : κ × V} {r : List (κ × V)} {k : κ} (e : ¬ p.1 = k) : valV (p :: r) k = valV r k := by simp [valV, List.find?_cons, e]
theorem valV_any (k : κ) : ∀ kvs : List (κ × V), (kvs.any fun kv => decide (kv.1 = k)) = (valV kvs k).isSome
  | [] => rfl
  | p :: r => by
    rw [List.any_cons]
    by_cases e : p.1 = k
    · simp only [valV_pos e, decide_eq_true e, Bool.true_or, Option.isSome_some]
    · rw [valV_neg e, decide_eq_false e, Bool.false_or]; exact valV_any k r
theorem valV_map (k j : κ) (y : V) : ∀ kvs : List (κ × V), valV (kvs.map fun kv => if kv.1 = k then (kv.1, y) else kv) j = (valV kvs j).map fun x => if j = k then y else x
  | [] => rfl
  | p :: r => by
    have ih := valV_map k j y r
    rw [List.map_cons]
    by_cases h : p.1 = k
    · rw [if_pos h]
      by_cases e : p.1 = j
      · rw [valV_pos (p := (p.1, y)) e, valV_pos e, Option.map_some, if_pos (e.symm.trans h)]
      · rw [valV_neg (p := (p.1, y)) e, valV_neg e, ih]
    · rw [if_neg h]
      by_cases e : p.1 = j
      · rw [valV_pos (p := p) e, valV_pos e, Option.map_some, if_neg (fun z => h (e.trans z))]
      · rw [valV_neg (p := p) e, valV_neg e, ih]
theorem valV_snoc (k j : κ) (y : V) : ∀ kvs : List (κ × V), valV kvs k = none → valV (kvs ++ [(k, y)]) j = if j = k then some y else valV kvs j
  | [], _ => by
    by_cases e : k = j
    · rw [if_pos e.symm]; exact valV_pos (p := (k, y)) e
    · rw [if_neg (fun z => e z.symm)]; exact valV_neg (p := (k, y)) e
  | p :: r, hn => by
    rw [List.cons_append]
    have hk : ¬ p.1 = k := fun z => by rw [valV_pos z] at hn; cases hn
    rw [valV_neg hk] at hn
    have ih := valV_snoc k j y r hn
    by_cases e : p.1 = j
    · rw [valV_pos e, valV_pos e, if_neg (fun z => hk (e.trans z))]
    · rw [valV_neg e, valV_neg e, ih]
theorem valV_put (kvs : List (κ × V)) (k j : κ) (y : V) : valV (putK kvs k y) j = if j = k then some y else valV kvs j := by
  unfold putK
  by_cases a : (kvs.any fun kv => decide (kv.1 = k)) = true
  · rw [if_pos a, valV_map]
    rw [valV_any] at a
    by_cases e : j = k
    · obtain ⟨x, hx⟩ := Option.isSome_iff_exists.mp a
      rw [if_pos e, e, hx, Option.map_some, if_pos rfl]
    · rw [if_neg e]
      cases valV kvs j with
      | none => rfl
      | some x => rw [Option.map_some, if_neg e]
  · rw [if_neg a]
    refine valV_snoc k j y kvs ?_
    rw [valV_any] at a
    cases q : valV kvs k with
    | none => rfl
    | some x => rw [q] at a; exact (a rfl).elim
theorem length_putK (kvs : List (κ × V)) (k : κ) (v : V) : (putK kvs k v).length ≤ kvs.length + 1 := by
  unfold putK
  split
  · rw [List.length_map]; omega
  · rw [List.length_append, List.length_cons, List.length_nil]; omega
theorem putK_new {kvs : List (κ × V)} {k : κ} (v : V) (h : valV kvs k = none) : putK kvs k v = kvs ++ [(k, v)] := by
  unfold putK
  rw [valV_any, h]
  exact if_neg (by decide)
theorem RelO.isSome_eq {o : Option V} {u : Option Value} (r : RelO o u) : o.isSome = u.isSome := by
  cases o with
  | none => cases u with
    | none => rfl
    | some _ => exact (show False from r).elim
  | some _ => cases u with
    | none => exact (show False from r).elim
    | some _ => rfl
theorem RelO.getD {o : Option V} {u : Option Value} {d : V} {d' : Value} (r : RelO o u) (rd : RelV d d') : RelV (o.getD d) (u.getD d') := by
  cases o with
  | none => cases u with
    | none => exact rd
    | some _ => exact (show False from r).elim
  | some _ => cases u with
    | none => exact (show False from r).elim
    | some _ => exact r
theorem KV.val {kvs : List (κ × V)} {vs : List (κ × Value)} (r : KV kvs vs) (k : κ) : RelO (valV kvs k) (valueAt vs k) := by
  unfold KV at r
  induction r with
  | nil => exact True.intro
  | @cons p q ps qs h t ih =>
    obtain ⟨h1, h2⟩ := h
    by_cases e : p.1 = k
    · have e' : q.1 = k := h1.symm.trans e
      have b : valueAt (q :: qs) k = some q.2 := by simp [valueAt, List.find?_cons, e']
      rw [valV_pos e, b]; exact h2
    · have e' : ¬ q.1 = k := fun z => e (h1.trans z)
      have b : valueAt (q :: qs) k = valueAt qs k := by simp [valueAt, List.find?_cons, e']
      rw [valV_neg e, b]; exact ih
theorem KV.any {kvs : List (κ × V)} {vs : List (κ × Value)} (r : KV kvs vs) (k : κ) : (kvs.any fun kv => decide (kv.1 = k)) = vs.any fun kv => decide (kv.1 = k) := by
  unfold KV at r
  induction r with
  | nil => rfl
  | cons h t ih => rw [List.any_cons, List.any_cons, ih, h.1]
theorem KV.repl {kvs : List (κ × V)} {vs : List (κ × Value)} (r : KV kvs vs) (k : κ) {y : V} {u : Value} (ry : RelV y u) :
    KV (kvs.map fun kv => if kv.1 = k then (kv.1, y) else kv) (vs.map fun kv => if kv.1 = k then (kv.1, u) else kv) := by
  unfold KV at r ⊢
  induction r with
  | nil => exact .nil
  | @cons p q ps qs h t ih =>
    rw [List.map_cons, List.map_cons]
    refine .cons ?_ ih
    obtain ⟨h1, h2⟩ := h
    by_cases e : p.1 = k
    · rw [if_pos e, if_pos (h1.symm.trans e)]; exact ⟨h1, ry⟩
    · rw [if_neg e, if_neg (fun z => e (h1.trans z))]; exact ⟨h1, h2⟩
theorem KV.put {kvs : List (κ × V)} {vs : List (κ × Value)} (r : KV kvs vs) (k : κ) {y : V} {u : Value} (ry : RelV y u) : KV (putK kvs k y) (stored vs k u) := by
  unfold putK stored
  rw [r.any k]
  by_cases e : (vs.any fun kv => decide (kv.1 = k)) = true
  · rw [if_pos e, if_pos e]; exact r.repl k ry
  · rw [if_neg e, if_neg e]; exact Paired.snoc r ⟨rfl, ry⟩
theorem KV.drop {kvs : List (κ × V)} {vs : List (κ × Value)} (r : KV kvs vs) (k : κ) : KV (dropK kvs k) (without vs k) := by
  unfold KV at r ⊢
  unfold dropK without
  induction r with
  | nil => exact .nil
  | @cons p q ps qs h t ih =>
    obtain ⟨h1, h2⟩ := h
    rw [List.filter_cons, List.filter_cons]
    by_cases e : p.1 = k
    · have a : ¬ decide (p.1 ≠ k) = true := by simp [e]
      have b : ¬ decide (q.1 ≠ k) = true := by simp [h1.symm.trans e]
      rw [if_neg a, if_neg b]; exact ih
    · have e' : ¬ q.1 = k := fun z => e (h1.trans z)
      have a : decide (p.1 ≠ k) = true := by simp [e]
      have b : decide (q.1 ≠ k) = true := by simp [e']
      rw [if_pos a, if_pos b]; exact .cons ⟨h1, h2⟩ ih
theorem KV.keys {kvs : List (κ × V)} {vs : List (κ × Value)} (r : KV kvs vs) : kvs.map (·.1) = vs.map (·.1) := by
  unfold KV at r
  induction r with
  | nil => rfl
  | cons h t ih => rw [List.map_cons, List.map_cons, ih, h.1]
theorem KV.length {kvs : List (κ × V)} {vs : List (κ × Value)} (r : KV kvs vs) : kvs.length = vs.length := Paired.length r
end
theorem kV_is {P : Program} {w : World} {k : Key} {u : Value} (r : RelV (kV k) u) : (mixKind P w).is k u = true := by
  cases k with
  | inl i => obtain ⟨t, e⟩ := (show ∃ t, u = Value.int i t from r); subst e; exact mixKind_int P w i t
  | inr x => obtain ⟨t, e⟩ := (show ∃ t, u = Value.str x t from r); subst e; exact mixKind_str P w x t
theorem items_are {P : Program} {w : World} : ∀ {ks : List Key} {us : List Value}, Vals (ks.map kV) us → ItemsAre (mixKind P w) ks us
  | [], _, r => by rw [List.map_nil] at r; cases r; exact .nil
  | k :: ks, _, r => by
    rw [List.map_cons] at r
    cases r with
    | cons h t => exact .cons (kV_is h) (items_are t)
abbrev KT (H : Hp) : List (List Key × V) → List (List Key × Addr × Value) → Prop := Paired fun p q => p.1 = q.1 ∧ H q.2.1 = some (.tup (p.1.map kV)) ∧ RelV p.2 q.2.2
theorem KT.val {H : Hp} {kvs : List (List Key × V)} {xs : List (List Key × Addr × Value)} (r : KT H kvs xs) (k : List Key) : RelO (valV kvs k) ((atKey xs k).map (·.2)) := by
  induction r with
  | nil => exact True.intro
  | @cons p q ps qs h t ih =>
    obtain ⟨h1, _, h2⟩ := h
    by_cases e : p.1 = k
    · have e' : q.1 = k := h1.symm.trans e
      have b : atKey (q :: qs) k = some q.2 := by simp [atKey, List.find?_cons, e']
      rw [valV_pos e, b]; exact h2
    · have e' : ¬ q.1 = k := fun z => e (h1.trans z)
      have b : atKey (q :: qs) k = atKey qs k := by simp [atKey, List.find?_cons, e']
      rw [valV_neg e, b]; exact ih
theorem KT.repl {H : Hp} {kvs : List (List Key × V)} {xs : List (List Key × Addr × Value)} (r : KT H kvs xs) (k : List Key) {y : V} {u : Value} (ry : RelV y u) :
    KT H (kvs.map fun kv => if kv.1 = k then (kv.1, y) else kv) (xs.map (putAt k u)) := by
  induction r with
  | nil => exact .nil
  | @cons p q ps qs h t ih =>
    rw [List.map_cons, List.map_cons]
    refine .cons ?_ ih
    obtain ⟨h1, h2, h3⟩ := h
    unfold putAt
    by_cases e : p.1 = k
    · rw [if_pos e, if_pos (h1.symm.trans e)]; exact ⟨h1, h2, ry⟩
    · rw [if_neg e, if_neg (fun z => e (h1.trans z))]; exact ⟨h1, h2, h3⟩
theorem KT.put {H : Hp} {kvs : List (List Key × V)} {xs : List (List Key × Addr × Value)} (r : KT H kvs xs) (k : List Key) {b : Addr} {y : V} {u : Value} (hb : H b = some (.tup (k.map kV))) (ry : RelV y u) :
    KT H (putK kvs k y) (storedH xs k b u) := by
  have e : (kvs.any fun kv => decide (kv.1 = k)) = (atKey xs k).isSome := by
    rw [valV_any, (r.val k).isSome_eq, Option.isSome_map]
  unfold putK storedH
  rw [e]
  by_cases q : (atKey xs k).isSome = true
  · rw [if_pos q, if_pos q]; exact r.repl k ry
  · rw [if_neg q, if_neg q]; exact Paired.snoc r ⟨rfl, hb, ry⟩
theorem KT.keeps {H H' : Hp} {kvs : List (List Key × V)} {xs : List (List Key × Addr × Value)} (r : KT H kvs xs) (ht : ∀ b ys, H b = some (.tup ys) → H' b = some (.tup ys)) : KT H' kvs xs :=
  Paired.mapP r fun _ _ z => ⟨z.1, ht _ _ z.2.1, z.2.2⟩
section
variable {P : Program} {w : World} {H : Hp} {h : Heap} {a : Addr}
theorem rd_of {u : HO} (ok : HOk P w H h) (e : Rd H a u) : ObjOk P w H h a u := e.ok ok
theorem dk_rd {kvs : List (Key × V)} (ok : HOk P w H h) (e : Rd H a (.dK kvs)) : kvs.length ≤ sizeLine ∧ (a == sysModules) = false ∧ ∃ vs, KV kvs vs ∧ h.DictOf (mixKind P w) a vs :=
  show ObjOk P w H h a (.dK kvs) from rd_of ok e
theorem dk_of {kvs : List (Key × V)} (ok : HOk P w H h) (e : H a = some (.dK kvs)) : kvs.length ≤ sizeLine ∧ (a == sysModules) = false ∧ ∃ vs, KV kvs vs ∧ h.DictOf (mixKind P w) a vs := dk_rd ok (.inl e)
theorem key_of {ks : List Key} (ok : HOk P w H h) (e : H a = some (.tup (ks.map kV))) : (tupleKind (mixKind P w)).is h ks a := by
  obtain ⟨_, its, r, o, h1, h2, n, h3⟩ := (show ObjOk P w H h a (.tup (ks.map kV)) from ok a _ e)
  exact ⟨o, its.toArray, n, h1, h2, h3, by simpa using items_are r⟩
theorem dt_rd {kvs : List (List Key × V)} (ok : HOk P w H h) (e : Rd H a (.dT kvs)) : kvs.length ≤ sizeLine ∧ (a == sysModules) = false ∧
    ∃ xs, KT H kvs xs ∧ h.DictOfH (tupleKind (mixKind P w)) a xs := by
  obtain ⟨z, y, xs, r, o, es, ep, h1, h2, h3, h4, h5⟩ := (show ObjOk P w H h a (.dT kvs) from rd_of ok e)
  refine ⟨z, y, xs, r, o, es, ep, h1, h2, h3, h4, fun x hx => ?_, h5⟩
  have all : ∀ {l : List (List Key × V)} {m : List (List Key × Addr × Value)}, KT H l m → ∀ x ∈ m, (tupleKind (mixKind P w)).is h x.1 x.2.1 := by
    intro l m q
    induction q with
    | nil => intro x hx; exact nomatch hx
    | @cons p q ps qs hq t ih =>
      intro x hx
      rcases List.mem_cons.mp hx with e | hx
      · subst e
        exact key_of ok (by rw [← hq.1]; exact hq.2.1)
      · exact ih x hx
  exact all r x hx
theorem dt_of {kvs : List (List Key × V)} (ok : HOk P w H h) (e : H a = some (.dT kvs)) : kvs.length ≤ sizeLine ∧ (a == sysModules) = false ∧
    ∃ xs, KT H kvs xs ∧ h.DictOfH (tupleKind (mixKind P w)) a xs := dt_rd ok (.inl e)
end
def DGet (H : Hp) (a : Addr) (y : V) (r : Option V) : Prop :=
  (∃ kvs k, Rd H a (.dK kvs) ∧ y = kV k ∧ r = valV kvs k) ∨ ∃ kvs k b, Rd H a (.dT kvs) ∧ y = .ref b ∧ H b = some (.tup (k.map kV)) ∧ r = valV kvs k
def DPut (H : Hp) (a : Addr) (y v : V) (H' : Hp) : Prop :=
  (∃ kvs k, H a = some (.dK kvs) ∧ y = kV k ∧ kvs.length < sizeLine ∧ H' = upd H a (.dK (putK kvs k v))) ∨
  ∃ kvs k b, H a = some (.dT kvs) ∧ y = .ref b ∧ H b = some (.tup (k.map kV)) ∧ kvs.length < sizeLine ∧ H' = upd H a (.dT (putK kvs k v))
theorem DGet.k {H : Hp} {a : Addr} {kvs : List (Key × V)} {k : Key} (e : H a = some (.dK kvs)) : DGet H a (kV k) (valV kvs k) := .inl ⟨kvs, k, .inl e, rfl, rfl⟩
theorem DGet.t {H : Hp} {a b : Addr} {kvs : List (List Key × V)} {k : List Key} (e : H a = some (.dT kvs)) (eb : H b = some (.tup (k.map kV))) : DGet H a (.ref b) (valV kvs k) := .inr ⟨kvs, k, b, .inl e, rfl, eb, rfl⟩
theorem DPut.k {H : Hp} {a : Addr} {kvs : List (Key × V)} {k : Key} {v : V} (e : H a = some (.dK kvs)) (hl : kvs.length < sizeLine) : DPut H a (kV k) v (upd H a (.dK (putK kvs k v))) := .inl ⟨kvs, k, e, rfl, hl, rfl⟩
theorem DPut.t {H : Hp} {a b : Addr} {kvs : List (List Key × V)} {k : List Key} {v : V} (e : H a = some (.dT kvs)) (eb : H b = some (.tup (k.map kV))) (hl : kvs.length < sizeLine) :
    DPut H a (.ref b) v (upd H a (.dT (putK kvs k v))) := .inr ⟨kvs, k, b, e, rfl, eb, hl, rfl⟩
section
variable {X : Cx} {pins : List (Addr × Obj)} {σ : St} {H : Hp} {s : Shared} {a : Addr} {y v : V} {u r : Value} {o : Option V} {A : Around} {E : Value → Shared → Prop}
theorem Inv.big (I : Inv X pins σ H s) : sysModules < s.heap.objs.size := by
  have h : mainGlobals < s.heap.objs.size := (I.mod.glob.keeps I.bk).lt
  exact Nat.lt_trans (by decide) h
theorem d_in {Q : Value → Shared → Prop} (hu : A.units + 1 < cLine) (I : Inv X pins σ H s) (g : DGet H a y o) (ry : RelV y u) (h : ∀ s', Inv X pins σ H s' → Q (.bool o.isSome) s') :
    wpAny (model X.prog X.w) A (compareOp .In u (.ref a)) Q E s := by
  rcases g with ⟨kvs, k, e, ey, l⟩ | ⟨kvs, k, b, e, ey, eb, l⟩
  · subst ey
    obtain ⟨z, hd, vs, rel, dd⟩ := dk_rd I.hok e
    refine wpAny_in_of (kV_is ry) hd dd.mapOf ?_
    rw [← (rel.val k).isSome_eq, ← l]
    exact h _ (I.tok _)
  · subst ey
    cases (show u = Value.ref b from ry)
    obtain ⟨z, hd, xs, rel, dd⟩ := dt_rd I.hok e
    refine wpAny_in_heap (tupleKind_room_in1 hu) (key_of I.hok eb) hd dd ?_
    have q := (rel.val k).isSome_eq
    rw [Option.isSome_map] at q
    rw [← q, ← l]
    exact h _ (I.tok _)
theorem d_write {h' : Heap} {t' : Nat} {ob : HO} (I : Inv X pins σ H s) (mu : Mut (H a)) (hs : Heap.SameBut a s.heap h') (he : ∃ q, h'.get? a = some q) (new : ObjOk X.prog X.w (upd H a ob) h' a ob) :
    Inv X pins σ (upd H a ob) { s with heap := h', toks := t' } :=
  I.write (x := a) (e := a) mu (.inl rfl) (fun b q hb z => (hs.2 b hb).trans z) he new
theorem dk_new {P : Program} {w : World} {H' : Hp} {h' : Heap} {kvs : List (Key × V)} {vs : List (Key × Value)} (z : kvs.length ≤ sizeLine) (hd : (a == sysModules) = false) (rel : KV kvs vs) (dd : h'.DictOf (mixKind P w) a vs) :
    ObjOk P w H' h' a (.dK kvs) := ⟨z, hd, vs, rel, dd⟩
theorem d_setItem {H' : Hp} {Q : Unit → Shared → Prop} (hu : A.units + 1 < cLine) (I : Inv X pins σ H s) (g : DPut H a y v H') (ry : RelV y u) (rv : RelV v r) (h : ∀ s', Inv X pins σ H' s' → Q () s') :
    wpAny (model X.prog X.w) A (setItem (.ref a) u r) Q E s := by
  rcases g with ⟨kvs, k, e, ey, l, eH⟩ | ⟨kvs, k, b, e, ey, eb, l, eH⟩
  · subst ey eH
    obtain ⟨z, hd, vs, rel, dd⟩ := dk_of I.hok e
    have hz : vs.length ≤ sizeLine := by rw [← rel.length]; exact z
    have hl : (putK kvs k v).length ≤ sizeLine := by have := length_putK kvs k v; omega
    refine wpAny_setItem_pairs (hsz := hz) (kV_is ry) dd fun h' dd' hs => h _ ?_
    have he : ∃ q, h'.get? a = some q := let ⟨q, _, _, hq, _⟩ := dd'; ⟨q, hq⟩
    exact d_write I (by rw [e]; exact True.intro) hs he (dk_new hl hd (rel.put k rv) dd')
  · subst ey eH
    cases (show u = Value.ref b from ry)
    obtain ⟨z, hd, xs, rel, dd⟩ := dt_of I.hok e
    have hz : xs.length ≤ sizeLine := by rw [← Paired.length rel]; exact z
    have hl : (putK kvs k v).length ≤ sizeLine := by have := length_putK kvs k v; omega
    refine wpAny_setItem_heap (hsz := hz) (tupleKind_room_in1 hu) (key_of I.hok eb) dd fun h' dd' hs => h _ ?_
    obtain ⟨q, es, ep, hq, h2, h3, h4, _, h5⟩ := dd'
    refine d_write I (by rw [e]; exact True.intro) hs ⟨q, hq⟩ ⟨hl, hd, _, (rel.put k eb rv).keeps fun c ys ec => ?_, q, es, ep, hq, h2, h3, h4, h5⟩
    rw [upd_ne (ne_of ec e (fun z => nomatch z))]
    exact ec
end
section
variable {X : Cx} {pins : List (Addr × Obj)} {σ : St} {H : Hp} {s : Shared} {a : Addr} {kvs : List (Key × V)} {k : Key} {u : Value} {A : Around} {E : Value → Shared → Prop}
end
def NoSl (i : Expr) : Prop := ∀ ov iv, subscripted i false ov iv = operate [ov, iv] (getItem ov iv)
theorem subD_of {prog : Program} {w : World} {A : Around} {E : Value → Shared → Prop} {s : Shared} {env : Env} {value slice : Expr} {pos : Pos} {T id : String} {Q : Value → Shared → Prop}
    (hl : typeLookup (.type T) "__getitem__" = pure (some (.builtin id))) (hs : NoSl slice)
    (h : wpAny (model prog w) A (eval value env) (fun o s₁ => wpAny (model prog w) A (eval slice env) (fun i s₂ => s₂.TypeIs o T ∧ wpAny (model prog w) A (getItem o i) Q E s₂) E s₁) E s) :
    wpAny (model prog w) A (eval (.Subscript value slice pos) env) Q E s := by
  refine Subscript_ (wpAny_mono h (fun o s₁ h₁ => wpAny_mono h₁ (fun i s₂ h₂ => ?_) fun _ _ x => x) fun _ _ x => x)
  obtain ⟨hT, h₂⟩ := h₂
  unfold subscriptTail
  refine wpAny_bind ?_
  rw [getitemInPython_of_ne hT.not_modules]
  refine wpAny_bind (wpAny_specialOf hT hl ?_)
  have fin : wpAny (model prog w) A (subscripted slice false o i) (fun r s₃ => wpAny (model prog w) A (letTemporaryGo value o r >>= fun _ => pure r) Q E s₃) E s₂ := by
    rw [hs o i]
    exact wpAny_operating (wpAny_mono h₂ (fun r s₃ h₃ => wpAny_bind (wpAny_letTemporaryGo (wpAny_pure h₃))) fun _ _ x => x)
  first
    | exact wpAny_pure (wpAny_bind fin)
    | exact wpAny_bind (wpAny_pure (wpAny_bind fin))
    | exact wpAny_bind fin
def tDGet (td ty : TE) : TE := fun σ H Q => td σ H fun x H1 => ty σ H1 fun y H2 => ∃ a v, x = .ref a ∧ DGet H2 a y (some v) ∧ Q v H2
def tDIn (ty td : TE) : TE := fun σ H Q => ty σ H fun y H1 => td σ H1 fun x H2 => ∃ a o, x = .ref a ∧ DGet H2 a y o ∧ Q (.bl o.isSome) H2
def tDNotIn (ty td : TE) : TE := fun σ H Q => ty σ H fun y H1 => td σ H1 fun x H2 => ∃ a o, x = .ref a ∧ DGet H2 a y o ∧ Q (.bl (!o.isSome)) H2
def sDPut (td ty tv : TE) : TS := fun D σ H => tv σ H fun v H1 => td σ H1 fun x H2 => ty σ H2 fun y H3 => ∃ a H4, x = .ref a ∧ DPut H3 a y v H4 ∧ D.nx σ H4
def sDAug (td ty tv : TE) (rd : V → V → Hp → VK → Prop) : TS := fun D σ H => td σ H fun x H1 => ty σ H1 fun y H2 => ∃ a v, x = .ref a ∧ DGet H2 a y (some v) ∧
  tv σ H2 fun y2 H3 => rd v y2 H3 fun z H4 => ∃ H5, DPut H4 a y z H5 ∧ D.nx σ H5
def sDDel (td ty : TE) : TS := fun D σ H => td σ H fun x H1 => ty σ H1 fun y H2 => ∃ a kvs k, x = .ref a ∧ H2 a = some (.dK kvs) ∧ y = kV k ∧ (valV kvs k).isSome = true ∧ D.nx σ (upd H2 a (.dK (dropK kvs k)))
section
variable {X : Cx} {o i e value : Expr} {pos pos' tpos : Pos} {td ty tv : TE}
theorem pc_din (hu : X.A.units + 1 < cLine) (hi : PE X i ty) (ho : PE X o td) : PC X .In i o (tDIn ty td) := by
  intro pins s σ H Q I h
  refine thn (hi pins s σ H _ I h) fun iv s1 ⟨y, H1, I1, ry, q1⟩ => thn (ho pins s1 σ H1 _ I1 q1) fun u s2 ⟨x, H2, I2, rx, a, ov, ex, g, q2⟩ => ?_
  subst ex
  obtain rfl : u = Value.ref a := rx
  exact d_in hu I2 g ry fun s3 I3 => ⟨.bl ov.isSome, H2, I3, rfl, q2⟩
theorem ps_dput (hu : X.A.units + 1 < cLine) (ho : PE X o td) (hi : PE X i ty) (hv : PE X value tv) (hs : swapsWith value (some (.Subscript o i pos')) pos.line X.env = pure false) :
    PS X (.Assign [.Subscript o i pos'] value pos) (sDPut td ty tv) := by
  intro pins s σ H D I h
  refine wpAny_Assign_Subscript (thn (hv pins s σ H _ I h) fun r s1 ⟨v, H1, I1, rv, q1⟩ => thn (ho pins s1 σ H1 _ I1 q1) fun u s2 ⟨x, H2, I2, rx, q2⟩ => thn (hi pins s2 σ H2 _ I2 q2) fun iv s3 ⟨y, H3, I3, ry, a, H4, ex, g, q3⟩ => ?_) hs
  subst ex
  obtain rfl : u = Value.ref a := rx
  exact d_setItem hu I3 g ry rv fun s4 I4 => ⟨σ, H4, I4, q3⟩
end
theorem dk_empty {P : Program} {w : World} {H : Hp} (h : Heap) (hb : sysModules < h.objs.size) : ObjOk P w H (h.push { cls := .type "dict", data := .dict #[] }) h.objs.size (.dK []) :=
  ⟨Nat.zero_le _, beq_eq_false_iff_ne.mpr (Ne.symm (Nat.ne_of_lt hb)), [], .nil, Heap.DictOf.new h⟩
theorem dt_empty {P : Program} {w : World} {H : Hp} (h : Heap) (hb : sysModules < h.objs.size) : ObjOk P w H (h.push { cls := .type "dict", data := .dict #[] }) h.objs.size (.dT []) :=
  ⟨Nat.zero_le _, beq_eq_false_iff_ne.mpr (Ne.symm (Nat.ne_of_lt hb)), [], .nil, _, #[], 0, Heap.get?_push_size _ rfl, ⟨rfl, rfl, rfl⟩, rfl, rfl, List.nodup_nil⟩
def tDNewK : TE := fun _ H Q => ∀ p, H p = none → Q (.ref p) (upd H p (.dK []))
def tDNewT : TE := fun _ H Q => ∀ p, H p = none → Q (.ref p) (upd H p (.dT []))
section
variable {X : Cx} {pos : Pos}
theorem pe_dnewT : PE X (.Dict [] [] pos) tDNewT := fun pins s σ H Q I h =>
  wpAny_Dict_empty ⟨.ref s.heap.objs.size, _, I.laid (a := s.heap.objs.size) (o := .dT []) (t' := s.toks) (fun _ _ q => Heap.get?_push_of_some _ q) (Nat.le_refl _) (dt_empty s.heap I.big), rfl, h _ (I.hok.fresh (Nat.le_refl _))⟩
end
def tPairs : List (TE × TE) → St → Hp → (List (V × V) → Hp → Prop) → Prop
  | [], _, H, Q => Q [] H
  | (tk, tv) :: r, σ, H, Q => tk σ H fun x H1 => tv σ H1 fun y H2 => tPairs r σ H2 fun ps H3 => Q ((x, y) :: ps) H3
abbrev VV : List (V × V) → List (Value × Value) → Prop := Paired fun p q => RelV p.1 q.1 ∧ RelV p.2 q.2
def PPs (X : Cx) (pos : Pos) (keys : List (Option Expr)) (values : List Expr) (trs : List (TE × TE)) : Prop :=
  ∀ (pins : List (Addr × Obj)) (s : Shared) (σ : St) (H : Hp) (Q : List (V × V) → Hp → Prop), Inv X pins σ H s → tPairs trs σ H Q →
    wpAny (model X.prog X.w) X.A (evalPairs (pairTrees keys values X.env pos)) (fun vs s' => ∃ ps H', Inv X pins σ H' s' ∧ VV ps vs ∧ Q ps H') X.xe s
theorem pps_nil {X : Cx} {pos : Pos} : PPs X pos [] [] [] := fun pins s σ H Q I h => pairTrees_nil_walk ⟨[], H, I, .nil, h⟩
theorem pps_cons {X : Cx} {pos : Pos} {k v : Expr} {ks : List (Option Expr)} {vs : List Expr} {tk tv : TE} {trs : List (TE × TE)} (hk : PE X k tk) (hv : PE X v tv) (hr : PPs X pos ks vs trs) :
    PPs X pos (some k :: ks) (v :: vs) ((tk, tv) :: trs) := fun pins s σ H Q I h =>
  pairTrees_cons_walk (thn (hk pins s σ H _ I h) fun u s1 ⟨x, H1, I1, rx, q1⟩ => thn (hv pins s1 σ H1 _ I1 q1) fun w2 s2 ⟨y, H2, I2, ry, q2⟩ =>
    thn (hr pins s2 σ H2 _ I2 q2) fun ws s3 ⟨ps, H3, I3, rel, q3⟩ => ⟨(x, y) :: ps, H3, I3, .cons ⟨rx, ry⟩ rel, q3⟩)
def mergeK (kvs more : List (Key × V)) : List (Key × V) := more.foldl (fun acc kv => putK acc kv.1 kv.2) kvs
theorem KV.merge : ∀ {more : List (Key × V)} {rs : List (Key × Value)} {kvs : List (Key × V)} {vs : List (Key × Value)}, KV more rs → KV kvs vs → KV (mergeK kvs more) (merged vs rs) := by
  intro more rs kvs vs r
  unfold KV at r
  induction r generalizing kvs vs with
  | nil => intro q; exact q
  | @cons p q ps qs h t ih =>
    intro r0
    have e : KV (putK kvs p.1 p.2) (stored vs q.1 q.2) := by
      have := r0.put p.1 h.2
      rw [← h.1]; exact this
    exact ih e
theorem length_mergeK : ∀ (more kvs : List (Key × V)), (mergeK kvs more).length ≤ kvs.length + more.length
  | [], kvs => by show kvs.length ≤ kvs.length + 0; omega
  | p :: r, kvs => by
    have h1 := length_mergeK r (putK kvs p.1 p.2)
    have h2 := length_putK kvs p.1 p.2
    show (mergeK (putK kvs p.1 p.2) r).length ≤ _
    rw [List.length_cons]; omega
theorem carries_of {P : Program} {w : World} : ∀ {kvs : List (Key × V)} {ws : List (Value × Value)}, VV (kvs.map fun kv => (kV kv.1, kv.2)) ws → ∃ rs, Carries (mixKind P w) ws rs ∧ KV kvs rs
  | [], _, r => by rw [List.map_nil] at r; cases r; exact ⟨[], True.intro, .nil⟩
  | p :: kvs, _, r => by
    rw [List.map_cons] at r
    cases r with
    | @cons a b as bs h t =>
      obtain ⟨rs, c, q⟩ := carries_of (P := P) (w := w) t
      obtain ⟨b1, b2⟩ := b
      exact ⟨(p.1, b2) :: rs, ⟨kV_is h.1, rfl, c⟩, .cons ⟨rfl, h.2⟩ q⟩
def tDisp (trs : List (TE × TE)) : TE := fun σ H Q => ∀ p, H p = none → tPairs trs σ (upd H p (.dK [])) fun ps H2 => H2 p = some (.dK []) ∧ ∃ kvs : List (Key × V), ps = kvs.map (fun kv => (kV kv.1, kv.2)) ∧ kvs.length ≤ 15 ∧ Q (.ref p) (upd H2 p (.dK (mergeK [] kvs)))
theorem pe_disp {X : Cx} {pos : Pos} {keys : List (Option Expr)} {values : List Expr} {trs : List (TE × TE)} (h : PPs X pos keys values trs) (hall : keys.all (·.isSome) = true) (hl : keys.length = values.length) (h0 : keys ≠ [])
    (h15 : keys.length ≤ 15) : PE X (.Dict keys values pos) (tDisp trs) := by
  intro pins s σ H Q I q
  have hn := I.hok.fresh (Nat.le_refl s.heap.objs.size)
  have I1 := I.laid (a := s.heap.objs.size) (o := .dK []) (h' := s.heap.push { cls := .type "dict", data := .dict #[] }) (t' := s.toks) (fun _ _ q => Heap.get?_push_of_some _ q) (Nat.le_refl _) (dk_empty s.heap I.big)
  refine wpAny_Dict_walk (knd := mixKind X.prog X.w) hall hl h0 h15 (thn (h pins _ σ _ _ I1 (q _ hn)) fun ws s2 ⟨ps, H2, I2, rel, e, kvs, ep, lk, q2⟩ => ?_)
  subst ep
  obtain ⟨rs, c, rk⟩ := carries_of (P := X.prog) (w := X.w) rel
  obtain ⟨z, hd, vs0, r0, dd⟩ := dk_of I2.hok e
  cases r0
  refine ⟨rs, c, dd, fun h' dd' hs => ⟨.ref s.heap.objs.size, _, ?_, rfl, q2⟩⟩
  have hz : (mergeK [] kvs).length ≤ sizeLine := by
    have h1 := length_mergeK kvs []
    rw [List.length_nil] at h1
    rw [sizeLine_eq]; omega
  have he : ∃ q, h'.get? s.heap.objs.size = some q := let ⟨q, _, _, hq, _⟩ := dd'; ⟨q, hq⟩
  exact d_write I2 (by rw [e]; exact True.intro) hs he (dk_new hz hd (rk.merge .nil) dd')
structure M1 (X : Cx) (o : Expr) (m : Str) (apos : Pos) (e : Expr) (cpos : Pos) : Prop where
  base : attributeBase o m X.env (eval o X.env) = eval o X.env
  few : ((backTo cpos (starEach [e] X.env)).all (fun x => !x.1) && (backToKw cpos (keywordEach [] X.env)).all (fun x => x.1.isSome)
    && decide (([e] : List Expr).length + ([] : List Keyword).length + (if ([] : List Keyword).isEmpty then 0 else 1) < 30)) = true
  line : (apos.endLine == cpos.line) = true
  trees : backTo cpos (starEach [e] X.env) = [(false, eval e X.env)]
structure M2 (X : Cx) (o : Expr) (m : Str) (apos : Pos) (e f : Expr) (cpos : Pos) : Prop where
  base : attributeBase o m X.env (eval o X.env) = eval o X.env
  few : ((backTo cpos (starEach [e, f] X.env)).all (fun x => !x.1) && (backToKw cpos (keywordEach [] X.env)).all (fun x => x.1.isSome)
    && decide (([e, f] : List Expr).length + ([] : List Keyword).length + (if ([] : List Keyword).isEmpty then 0 else 1) < 30)) = true
  line : (apos.endLine == cpos.line) = true
  trees : backTo cpos (starEach [e, f] X.env) = [(false, eval e X.env), (false, eval f X.env)]
def IsD (H : Hp) (a : Addr) : Prop := (∃ kvs, Rd H a (.dK kvs)) ∨ ∃ kvs, Rd H a (.dT kvs)
section
variable {X : Cx} {pins : List (Addr × Obj)} {σ : St} {H : Hp} {s : Shared} {a : Addr} {y d : V} {u r : Value} {o : Option V} {A : Around} {E : Value → Shared → Prop}
end
def tDGet1 (td ty : TE) : TE := fun σ H Q => td σ H fun x H1 => ∃ a, x = .ref a ∧ IsD H1 a ∧ ty σ H1 fun y H2 => ∃ o, DGet H2 a y o ∧ Q (o.getD .non) H2
def tDGet2 (td ty tx : TE) : TE := fun σ H Q => td σ H fun x H1 => ∃ a, x = .ref a ∧ IsD H1 a ∧ ty σ H1 fun y H2 => tx σ H2 fun z H3 => ∃ o, DGet H3 a y o ∧ Q (o.getD z) H3
def tDPop1 (td ty : TE) : TE := fun σ H Q => td σ H fun x H1 => ∃ a, x = .ref a ∧ IsD H1 a ∧ ty σ H1 fun y H2 => ∃ kvs k v, H2 a = some (.dK kvs) ∧ y = kV k ∧ valV kvs k = some v ∧ Q v (upd H2 a (.dK (dropK kvs k)))
def tDPop2 (td ty tx : TE) : TE := fun σ H Q => td σ H fun x H1 => ∃ a, x = .ref a ∧ IsD H1 a ∧ ty σ H1 fun y H2 => tx σ H2 fun z H3 => ∃ kvs k, H3 a = some (.dK kvs) ∧ y = kV k ∧
  (∀ v, valV kvs k = some v → Q v (upd H3 a (.dK (dropK kvs k)))) ∧ (valV kvs k = none → Q z H3)
section
variable {X : Cx} {o e f : Expr} {apos cpos : Pos} {td ty tx : TE}
end
section
variable {X : Cx} {pins : List (Addr × Obj)} {σ : St} {H : Hp} {s : Shared} {a : Addr} {kvs : List (Key × V)} {A : Around} {E : Value → Shared → Prop}
end
section
variable {X : Cx} {pins : List (Addr × Obj)} {σ : St} {H : Hp} {s : Shared} {a : Addr} {y : V} {u : Value} {A : Around} {E : Value → Shared → Prop}
end
end L2
namespace Att
open PySem PySem.W PySem.Calls PyProof.Rows
theorem ints_of_wellAll {P : Params} {h : Heap} : ∀ (ns : List Int) (vs : List Value), WellAll P h vs (ns.map WData.int) → IntsAre vs ns := by
  intro ns
  induction ns with
  | nil =>
    intro vs w
    rw [List.map_nil] at w
    cases w
    exact .nil
  | cons n ns ih =>
    intro vs w
    rw [List.map_cons] at w
    cases w with
    | cons a b =>
      cases a
      exact .cons _ _ (ih _ b)
theorem script_of {l : OpenLaw} {n : Nat} (hn : l.most = some n) {P : Params} {h : Heap} {args : List WData} {vals : List Value}
    (hpre : l.row.toRowW.claim.pre args = true) (hwl : WellAll P h vals args) :
    ∃ a vs ns, vals = [Value.ref a] ∧ args = [WData.list (ns.map WData.int)] ∧ h.get? a = some { cls := .type "list", data := .seq vs.toArray } ∧ IntsAre vs ns ∧ ns.length ≤ n := by
  have hsh : WShape.hasAll [] args [.list .int] = true := (pre_splitW hpre).1
  have hc : l.pre.holds [] { args := args } = true := (pre_splitW hpre).2
  obtain ⟨d, r, rfl, h1, h2⟩ := hasAllW_cons hsh
  obtain rfl := hasAllW_nil h2
  obtain ⟨xs, rfl, h3⟩ := hasW_list h1
  obtain ⟨ns, rfl⟩ := items_int h3
  have hlen : ns.length ≤ n := by
    unfold OpenLaw.pre at hc
    have h4 : (WTm.not (.lt (.lit (.int (n : Int))) (.len (.arg 0)))).holds [] { args := [.list (ns.map .int)] } = true := by
      have h4 := (holds_andW hc).1
      rw [hn] at h4
      exact h4
    have h5 := condW_of h4 (w_not (w_lt w_lit (w_len_list (w_arg rfl))))
    rw [List.length_map] at h5
    refine Nat.le_of_not_lt fun q => ?_
    have q' : (n : Int) < ((ns.length : Nat) : Int) := by omega
    first
      | (rw [decide_eq_true q'] at h5; exact absurd h5 (by decide))
      | (simp at h5; omega)
  cases hwl with
  | cons w1 w2 =>
    cases w2
    cases w1 with
    | list ho hall => exact ⟨_, _, ns, rfl, rfl, ho, ints_of_wellAll ns _ hall, hlen⟩
theorem post_true (l : OpenLaw) (args : List WData) : l.row.toRowW.claim.post args (.bool true) args = true :=
  postW_of (r := l.row.toRowW) (X := (true == true))
    (show WShape.has [] (.bool true) .bool = true by first | rfl | decide | simp [WShape.has, WShape.arms, WShape.armsAll])
    (show (WTm.eq .res (.lit (.bool true))).value [] { args := args, res := some (.bool true), after := args } = some (.bool (true == true)) from w_eq_bool (w_res rfl) w_lit) rfl
theorem attach_call {l : OpenLaw} {n : Nat} {q : Program} {loose : List Str} {XP : (Str → Option Value) → Heap → Prop} {YP : World → Heap → Prop} {d : DefRec}
    (hn : l.most = some n) (hdf : d.params.defaults = [])
    (call : ∀ (w : World) (s₀ s₁ : Shared) (mg mb : Str → Option Value) (fa : Addr) (o : Obj) (pm cd doc : Value) (a : Addr) (vs : List Value) (ns : List Int),
      Ground q loose [] XP w s₀ mg mb s₁.heap → YP w s₁.heap →
      s₁.heap.get? fa = some o → o.data = .func (docDef d.name d.params d.body d.scope pm cd doc) → s₁.heap.CodeRec cd d.name → mg d.name = some (.ref fa) →
      s₁.heap.get? a = some { cls := .type "list", data := .seq vs.toArray } → IntsAre vs ns → ns.length ≤ n → s₁.gens = #[] →
      codeAny (model l.prog w) callerA (.call (.ref fa) ⟨[.ref a], []⟩) (fun r s' => r = .ok (.ret (.bool true)) ∧ OldK s₁.heap s'.heap ∧ s'.os = s₁.os ∧ AllBare s'.gens) s₁) :
    WalkO q loose XP YP l.row.toRowW d [] (fun f vs => PySem.call f vs) := by
  intro w s₀ s₁ mg mb G Y fa o pm cd doc dV kV ho hd hcd hD hmg hg args vals as hpre hlay hrd hwl hlo
  obtain rfl : dV = .none := Dflts.none hD hdf
  obtain rfl : kV = .none := Dflts.noKw hD
  obtain ⟨a, vs, ns, rfl, rfl, hobj, hints, hlen⟩ := script_of hn hpre hwl
  refine enter_call (codeAny_mono (call w s₀ s₁ mg mb fa o pm cd doc a vs ns G Y ho (fd_plain hd) hcd hmg hobj hints hlen hg) fun r s' hq => ?_)
  obtain ⟨rfl, h2, h3, h4⟩ := hq
  exact ⟨.inl ⟨.bool true, .bool true, [], rfl, fun _ => rfl, .bool true, post_true l _, fun _ => ⟨List.Pairwise.nil, fun _ hm => (nomatch hm)⟩⟩, h2, h3, h4⟩
section
variable {prog : Program} {w : World} {A : Around} {E : Value → Shared → Prop} {s : Shared} {K : Frag}
def noObjs (h : Heap) : Heap := { h with objs := #[] }
def ledger (h : Heap) (L d : Addr) : List (Addr × Obj) := (List.range h.objs.size).filterMap fun a => if a = L ∨ a = d then none else (h.get? a).map fun o => (a, o)
end
end Att
namespace L2
open PySem PySem.Spec PyProof.Rows
theorem vals_ints : ∀ {vs : List Value} {ns : List Int}, IntsAre vs ns → Vals (ns.map V.int) vs
  | _, _, .nil => .nil
  | _, _, .cons n t h => .cons ⟨t, rfl⟩ (vals_ints h)
def Only (H : Hp) : Prop := ∀ b, H b = none ∨ ∃ o xs, H b = some (.frz o (.lst xs))
theorem law_call {P : Program} {w : World} {K : PySem.W.Frag} {mg mb : Str → Option Value} {CX : CXT} {k : Nat} {fa a : Addr} {fd : FuncData} {x : Str} {sp : Sp} {s₁ : Shared} {vs : List Value} {ns : List Int}
    (KX : K.In s₁.heap) (hns : s₁.heap.Ns mainGlobals mg) (hb : s₁.heap.Ns builtinsNs mb) (hbb : ∀ x : Str, x ≠ "__name__" → mb x = bootBuiltins x) (hlim : s₁.heap.NoLimit) (hg : s₁.gens = #[])
    (ha : s₁.heap.get? a = some { cls := .type "list", data := .seq vs.toArray }) (hi : IntsAre vs ns) (hl : ns.length ≤ sizeLine) (hr : Room k callerA)
    (F : ∀ base : Heap, K.In base → base.Ns mainGlobals mg → FnOk P w K mg base CX k fa fd [x] sp) (hbind : ∀ (s : Shared) (u : Value), BindsTo s fd ⟨[u], []⟩ [(x, u)])
    (hsp : ∀ H : Hp, Only H → SqL K H a (ns.map V.int) → sp [.ref a] H (fun v _ => v = .bl true) fun _ _ _ => False)
    (hCX : ∀ H e s', CX [] H s₁ (fun _ _ _ => False) e s' → False) :
    codeAny (model P w) callerA (.call (.ref fa) ⟨[.ref a], []⟩) (fun r s' => r = .ok (.ret (.bool true)) ∧ OldK s₁.heap s'.heap ∧ s'.os = s₁.os ∧ AllBare s'.gens) s₁ := by
  have rv := vals_ints hi
  have lenV := hi.length
  have core : ∀ H : Hp, Only H → SqL K H a (ns.map V.int) → HOk P w H s₁.heap → (∀ b, H b ≠ none → b = a) → (H a ≠ none → K.lookup a = none) →
      codeAny (model P w) callerA (.call (.ref fa) ⟨[.ref a], []⟩) (fun r s' => r = .ok (.ret (.bool true)) ∧ OldK s₁.heap s'.heap ∧ s'.os = s₁.os ∧ AllBare s'.gens) s₁ := by
    intro H hO hS hok hA hK
    have base_of : ∀ {b : Addr} {o : Obj}, s₁.heap.get? b = some o → H b = none → (hidT s₁.heap H).get? b = some o := fun e n => hidT_get e n
    have noA : ∀ {b : Addr} {o : Obj} {es : Array DictEntry} {ep : Nat}, s₁.heap.get? b = some o → o.data = .dict es ep → H b = none := fun {b o es ep} e d => by
      cases q : H b with
      | none => rfl
      | some u =>
        have e' : b = a := hA b (by rw [q]; simp)
        subst e'
        rw [ha] at e; cases e
        have d' : Data.seq vs.toArray _ = Data.dict es ep := d
        cases d'
    have nsK : ∀ {b : Addr} {m : Str → Option Value}, s₁.heap.Ns b m → (hidT s₁.heap H).Ns b m := fun {b m} ⟨o, es, ep, e, d, r⟩ => ⟨o, es, ep, base_of e (noA e d), d, r⟩
    have hKb : K.In (hidT s₁.heap H) := fun b o e => base_of (KX b o e) (by
      cases q : H b with
      | none => rfl
      | some u =>
        have e' : b = a := hA b (by rw [q]; simp)
        subst e'
        rw [hK (by rw [q]; simp)] at e; cases e)
    have hM : Mod K mg (hidT s₁.heap H) := ⟨hKb, nsK hns, ⟨mb, nsK hb, hbb⟩, let ⟨mc, h1, h2⟩ := hlim; ⟨mc, nsK h1, h2⟩⟩
    have e0 : Env0 P w K mg (hidT s₁.heap H) callerA [] s₁ H := ⟨rfl, hM, fun b o e => of_hidT e, Nat.le_of_eq (hidT_size _ _), trivial, fun b hb => absurd (show b ∈ ([] : List Addr) from hb) (by simp), hok, .of_eq hg⟩
    refine codeAny_mono ((F _ hKb (nsK hns)).run callerA [] s₁ H ⟨[.ref a], []⟩ [.ref a] [.ref a] _ _ hr e0 (hbind s₁ (.ref a)) (.cons rfl .nil) (hsp H hO hS)) fun r s' h => ?_
    cases r with
    | error e => exact (hCX H e s' h).elim
    | ok fl =>
      cases fl with
      | next => exact False.elim h
      | brk => exact False.elim h
      | cont => exact False.elim h
      | ret u =>
        obtain ⟨v, H', os, bare, un, hok', r', q⟩ := h
        have q' : v = .bl true := q
        subst q'
        obtain rfl : u = Value.bool true := r'
        refine ⟨rfl, OldK.of_keep fun b o e => ?_, os, bare⟩
        cases q : H b with
        | none => exact un.keep b o e q (by intro z; exact absurd (show b ∈ ([] : List Addr) from z) (by simp)) (by simp)
        | some u =>
          rcases hO b with z | ⟨ob, xs, z⟩
          · rw [q] at z; cases z
          · have z2 := un.frzs b ob _ z
            obtain ⟨e1, _⟩ := hok b _ z
            obtain ⟨e2, _⟩ := hok' b _ z2
            rw [e] at e1; cases e1
            exact e2
  cases hk : K.lookup a with
  | some o =>
    have e := KX a o hk
    rw [ha] at e
    cases e
    refine core (fun _ => none) (fun _ => .inl rfl) (.inr ⟨_, vs.toArray, _, hk, rfl, rfl, rfl, by rw [List.size_toArray, lenV]; exact hl, by simpa using rv⟩) (fun b u z => by have z' : (none : Option HO) = some u := z; cases z') (fun b z => absurd rfl z) fun z => absurd rfl z
  | none =>
    refine core (fun b => if b = a then some (.frz { cls := .type "list", data := .seq vs.toArray } (.lst (ns.map V.int))) else none) (fun b => ?_) (.inl (.inr ⟨{ cls := .type "list", data := .seq vs.toArray }, if_pos rfl⟩)) (fun b u z => ?_) (fun b z => ?_) fun _ => hk
    · by_cases hb : b = a
      · exact .inr ⟨_, _, if_pos hb⟩
      · exact .inl (if_neg hb)
    · by_cases hb : b = a
      · have z' := (if_pos hb).symm.trans z
        cases z'
        subst hb
        exact ⟨ha, by rw [List.length_map]; exact hl, vs, _, rv, ha⟩
      · have z' := (if_neg hb).symm.trans z
        cases z'
    · by_cases hb : b = a
      · exact hb
      · exact absurd (if_neg hb) z
end L2
namespace L2
open PySem PySem.Spec PyProof.Rows
abbrev KOf {K : PySem.W.Frag} {h : Heap} (_ : K.In h) : PySem.W.Frag := K
theorem walk_of {l : PySem.W.OpenLaw} {n k : Nat} {q : Program} {loose : List Str} {XP : (Str → Option Value) → Heap → Prop} {YP : World → Heap → Prop} {d : DefRec} {K : Params → PySem.W.Frag} {CX : World → CXT} {sp : World → Sp} {x : Str}
    (hn : l.most = some n) (hn2 : n ≤ sizeLine) (hdf : d.params.defaults = []) (hr : Room k callerA)
    (hY : ∀ (w : World) (h : Heap), YP w h → (K w.params).In h)
    (F : ∀ (w : World) (mg : Str → Option Value) (fa : Addr) (h : Heap), (K w.params).In h → h.Ns mainGlobals mg → mg d.name = some (.ref fa) →
      ∃ fd : FuncData, (∀ (s : Shared) (u : Value), BindsTo s fd ⟨[u], []⟩ [(x, u)]) ∧
        ∀ base : Heap, (K w.params).In base → base.Ns mainGlobals mg → FnOk l.prog w (K w.params) mg base (CX w) k fa fd [x] (sp w))
    (hsp : ∀ (w : World) (H : Hp) (a : Addr) (ns : List Int), ns.length ≤ n → Only H → SqL (K w.params) H a (ns.map V.int) → sp w [.ref a] H (fun v _ => v = .bl true) fun _ _ _ => False)
    (hCX : ∀ (w : World) (H : Hp) (s : Shared) (e : Value) (s' : Shared), CX w [] H s (fun _ _ _ => False) e s' → False) :
    PySem.W.WalkO q loose XP YP l.row.toRowW d [] (fun f vs => PySem.call f vs) := by
  refine Att.attach_call hn hdf fun w s₀ s₁ mg mb fa o pm cd doc a vs ns G Y ho hd hcd hmg hobj hints hlen hg => ?_
  have KX := hY w _ Y
  obtain ⟨fd, hb, hF⟩ := F w mg fa _ KX G.T.g hmg
  exact law_call KX G.T.g G.T.b G.T.builtins G.T.nolimit hg hobj hints (Nat.le_trans hlen hn2) hr hF hb (fun H hO hS => hsp w H a ns hlen hO hS) fun H e s' => hCX w H s₁ e s'
theorem walk_ofK {l : PySem.W.OpenLaw} {n k : Nat} {q : Program} {loose : List Str} {XP : (Str → Option Value) → Heap → Prop} {YP : World → Heap → Prop} {d : DefRec} {K : Params → PySem.W.Frag} {CX : CXT} {sp : PySem.W.Frag → Sp} {x : Str}
    (hn : l.most = some n) (hn2 : n ≤ sizeLine) (hdf : d.params.defaults = []) (hr : Room k callerA)
    (hY : ∀ (w : World) (h : Heap), YP w h → (K w.params).In h)
    (F : ∀ (w : World) (mg : Str → Option Value) (fa : Addr) (h : Heap), (K w.params).In h → h.Ns mainGlobals mg → mg d.name = some (.ref fa) →
      ∃ fd : FuncData, (∀ (s : Shared) (u : Value), BindsTo s fd ⟨[u], []⟩ [(x, u)]) ∧
        ∀ base : Heap, (K w.params).In base → base.Ns mainGlobals mg → FnOk l.prog w (K w.params) mg base CX k fa fd [x] (sp (K w.params)))
    (hsp : ∀ (K : PySem.W.Frag) (H : Hp) (a : Addr) (ns : List Int), ns.length ≤ n → Only H → SqL K H a (ns.map V.int) → sp K [.ref a] H (fun v _ => v = .bl true) fun _ _ _ => False)
    (hCX : ∀ (H : Hp) (s : Shared) (e : Value) (s' : Shared), CX [] H s (fun _ _ _ => False) e s' → False) :
    PySem.W.WalkO q loose XP YP l.row.toRowW d [] (fun f vs => PySem.call f vs) :=
  walk_of (K := K) (CX := fun _ => CX) (sp := fun w => sp (K w.params)) hn hn2 hdf hr hY F (fun w H a ns h1 h2 h3 => hsp (K w.params) H a ns h1 h2 h3) fun _ H s e s' => hCX H s e s'
end L2
/- THE LAST THEOREM (shape; LID, My.* are yours):
   My.Adr: a structure of the addresses that your layer names (classes, functions); My.Txt K t: a structure (Prop) of the equations over K;
   My.txt_mk : {K} {implicit addresses ..} (e1 : nsIn K mainGlobals "law" = some (some (.ref f))) (e2 : K.lookup f = some ⟨oc, od, .func (fnOf "law" "law" params body scope dV kV doc pm an cdv ct), sl⟩) (e3 : codeIn K cdv "law" = true) .. : ∃ t, My.Txt K t
set_option maxRecDepth 100000 in
set_option maxHeartbeats 0 in
theorem PySem.Challenge.cw_LID_holds : PySem.Challenge.rw_LID.Holds := by
  w_on; o_law; k_head; (case hw => w_witness2)
  k_fill
  refine L2.walk_of (l := PySem.Challenge.rw_LID) (n := 63) (k := 40) (x := "script") (CX := fun w => ..) (sp := fun _ => My.sp_law) rfl (by decide) rfl ⟨rfl, by decide, by decide⟩ (fun w h Y => PySem.W.kIn_of Y) ?F ?S ?C
  case F =>
    intro w mg fa h KX G hmg
    have T : ∃ t, My.Txt (L2.KOf KX) t := by
      dsimp only [L2.KOf]                          -- K must stand as «<heap const> w.params» for k_is
      refine' My.txt_mk ?e1 ?e2 ?e3 ..
      (case e1 => PySem.W.k_is)                    -- in the order: a name -> its address -> its object -> its parts
      (case e2 => PySem.W.k_is)
      ..
    obtain ⟨t, T⟩ := T
    have e0 := hmg.symm.trans (PySem.W.mg_of KX G T.law)
    cases e0                                       -- fa is the law's own address
    exact ⟨_, fun s u => .of_eq rfl, fun base kb nb => My.law_fn T kb nb⟩     -- if «.of_eq rfl» comes too early: refine' ⟨_, ?b, fun base kb nb => My.law_fn T kb nb⟩; exact fun s u => .of_eq rfl
  case S => exact fun w H a ns hl hO hS => ..
  case C => exact ..
(the tactic k_is has no namespace: write k_is) -/
namespace L2
open PySem PySem.Spec PyProof.Rows
def inClass (s : Stmt) (j : Nat) : Stmt := match s with
  | .ClassDef _ _ _ body _ _ _ _ _ _ _ => body.getD j (.Pass ⟨0, 0, 0, 0⟩)
  | _ => .Pass ⟨0, 0, 0, 0⟩
def defArgs (s : Stmt) : Arguments := match s with
  | .FunctionDef _ a _ _ _ _ _ _ _ _ => a
  | _ => { posonlyargs := [], args := [], vararg := none, kwonlyargs := [], kw_defaults := [], kwarg := none, defaults := [] }
def defBody (s : Stmt) : List Stmt := match s with
  | .FunctionDef _ _ b _ _ _ _ _ _ _ => b
  | _ => []
def defScope (s : Stmt) : Scope := match s with
  | .FunctionDef _ _ _ _ _ _ sc _ _ _ => sc
  | _ => { kind := .function, names := [], isGenerator := false, isCoroutine := false }
abbrev CX0 : CXT := fun _ _ _ _ _ _ => False
abbrev E0 : XK := fun _ _ _ => False
theorem pass0 {X : Cx} : Passes CX0 X E0 := fun _ _ _ _ _ _ _ h => h.elim
structure Fun (K : PySem.W.Frag) (x qual : Str) (st : Stmt) (f : Addr) (fd : FuncData) : Prop where
  ex : ∃ (oc : Value) (od : Option Addr) (kV doc pm : Value) (an : Option Addr) (cdv ct : Value) (osl : Array (Option Value)),
    fd = PySem.W.fnOf x qual (defArgs st) (defBody st) (defScope st) .none kV doc pm an cdv ct ∧ K.lookup f = some ⟨oc, od, .func fd, osl⟩ ∧ PySem.W.codeIn K cdv qual = true
  kp : PySem.W.keepIn K (.ref f) = true
section
variable {P : Program} {w : World} {K : PySem.W.Frag} {mg : Str → Option Value} {base : Heap}
theorem Fun.ok {x qual : Str} {st : Stmt} {f : Addr} {fd : FuncData} {N ps : List Str} {k : Nat} {sp : Sp} (F : Fun K x qual st f fd) (S : FnScope N ps (defScope st)) (len : ∀ vs H Q E, sp vs H Q E → vs.length = ps.length)
    (hbody : ∀ (cdv : Value) (A : Around) (outer : List Env) (s : Shared) (H : Hp) (vs : List V) (Q : VK) (E : XK), Room k (A.deeper (envOfC qual (defScope st) s.heap.objs.size f cdv)) → sp vs H Q E →
      ∃ t, PSs (cxOf CX0 P w K mg base N qual (defScope st) f cdv A outer s H E).nox (defBody st) t ∧ t { nx := fun _ H' => Q .non H', rt := Q } (start N vs) H) : FnOk P w K mg base CX0 (k + 1) f fd ps sp := by
  obtain ⟨oc, od, kV, doc, pm, an, cdv, ct, osl, rfl, lk, hcd⟩ := F.ex
  refine fn_of lk hcd S len fun A outer s H vs Q E hr hsp => ?_
  obtain ⟨t, h, q⟩ := hbody cdv A outer s H vs Q E hr hsp
  exact ⟨t, h.nox, q⟩
theorem Fun.binds {x qual : Str} {st : Stmt} {f : Addr} {fd : FuncData} {ps : List Str} (F : Fun K x qual st f fd)
    (h : ∀ (kV doc pm : Value) (an : Option Addr) (cdv ct : Value) (us : List Value), us.length = ps.length → bindArgs (PySem.W.fnOf x qual (defArgs st) (defBody st) (defScope st) .none kV doc pm an cdv ct) ⟨us, []⟩ = pure (ps.zip us)) : Binds K fd ps [] := by
  obtain ⟨oc, od, kV, doc, pm, an, cdv, ct, osl, rfl, lk, hcd⟩ := F.ex
  exact .all (h kV doc pm an cdv ct)
theorem fun_mk {x qual : Str} {st : Stmt} {f : Addr} {oc : Value} {od an : Option Addr} {osl : Array (Option Value)} {kV doc pm cdv ct : Value} (l : K.lookup f = some ⟨oc, od, .func (PySem.W.fnOf x qual (defArgs st) (defBody st) (defScope st) .none kV doc pm an cdv ct), osl⟩)
    (c : PySem.W.codeIn K cdv qual = true) (k : PySem.W.keepIn K (.ref f) = true) : Fun K x qual st f (PySem.W.fnOf x qual (defArgs st) (defBody st) (defScope st) .none kV doc pm an cdv ct) := ⟨⟨oc, od, kV, doc, pm, an, cdv, ct, osl, rfl, l, c⟩, k⟩
end
theorem hu_of {A : Around} {k : Nat} (hr : Room k A) : A.units + 1 < cLine := Nat.lt_of_le_of_lt (Nat.add_le_add_left (by decide : 1 ≤ 64) _) hr.units
theorem small1000 {n : Nat} (h : n ≤ 1000) : n < sizeLine := Nat.lt_of_le_of_lt h (by decide)
section
variable {X : Cx}
theorem pv (i : Nat) {x : Str} {pos : Pos} (hN : X.N[i]? = some x := by rfl) (hv : Vis X.env.scope x := by first | exact Or.inl rfl | exact Or.inr (Or.inl rfl) | exact Or.inr (Or.inr rfl)) (hd : (x == ("__debug__" : Str)) = false := by decide)
    (hcd : (x == ("__classdict__" : Str)) = false := by decide) : PE X (.Name x pos) (tVar i) := pe_var hN hv hd hcd
end
theorem ite2 {c A B : Prop} [Decidable c] (h1 : c → A) (h2 : ¬ c → B) : if c then A else B := by
  by_cases h : c
  · rw [if_pos h]
    exact h1 h
  · rw [if_neg h]
    exact h2 h
def Same (H H' : Hp) : Prop := ∀ b o, H b = some o → H' b = some o
theorem Same.refl (H : Hp) : Same H H := fun _ _ h => h
theorem Same.trans {H H1 H2 : Hp} (a : Same H H1) (b : Same H1 H2) : Same H H2 := fun c o h => b c o (a c o h)
theorem Same.free {H H' : Hp} (e : Same H H') {l : Addr} (h : H' l = Option.none) : H l = Option.none := by
  cases q : H l with
  | none => rfl
  | some o =>
    rw [e l o q] at h
    cases h
theorem Same.seq {K : PySem.W.Frag} {H H' : Hp} {a : Addr} {xs : List V} (e : Same H H') (h : SqL K H a xs) : SqL K H' a xs := by
  rcases h with (h | ⟨o, h⟩) | h
  · exact .inl (.inl (e _ _ h))
  · exact .inl (.inr ⟨o, e _ _ h⟩)
  · exact .inr h
end L2
namespace L2
open PySem PySem.Spec PyProof.Rows
section
variable {X : Cx}
end
section
variable {κ : Type} [DecidableEq κ]
theorem valV_not {kvs : List (κ × V)} {k : κ} (h : valV kvs k = none) : ¬ k ∈ kvs.map (·.1) := by
  intro m
  obtain ⟨p, hp, e⟩ := List.mem_map.mp m
  have q : (kvs.any fun kv => decide (kv.1 = k)) = true := List.any_eq_true.mpr ⟨p, hp, decide_eq_true e⟩
  rw [valV_any, h] at q
  exact absurd q (by simp)
theorem valV_in {kvs : List (κ × V)} {k : κ} {v : V} (h : valV kvs k = some v) : k ∈ kvs.map (·.1) := by
  have q : (kvs.any fun kv => decide (kv.1 = k)) = true := by
    rw [valV_any, h]
    all_goals rfl
  obtain ⟨p, hp, e⟩ := List.any_eq_true.mp q
  exact List.mem_map.mpr ⟨p, hp, of_decide_eq_true e⟩
end
end L2
set_option Elab.async false
set_option linter.all false
set_option maxRecDepth 100000
set_option maxHeartbeats 4000000
namespace L2
open PySem PySem.Spec PyProof.Rows
def clGo (cells : List (Str × Addr)) : List (Str × NameKind) → List (Str × Addr) → List (Str × Addr)
  | [], acc => acc
  | (n, k) :: r, acc => clGo cells r (if k == .free then (n, (cells.lookup n).getD 0) :: acc else acc)
theorem clGo_sound {cells : List (Str × Addr)} : ∀ {names : List (Str × NameKind)} {acc : List (Str × Addr)}, (∀ y ∈ names, y.2 = .free → ∃ c, cells.lookup y.1 = some c) → (∀ y c, acc.lookup y = some c → cells.lookup y = some c) →
    ∀ y c, (clGo cells names acc).lookup y = some c → cells.lookup y = some c
  | [], acc, _, h, y, c, e => h y c e
  | (n, k) :: r, acc, hf, h, y, c, e => by
    refine clGo_sound (names := r) (fun z hz => hf z (List.mem_cons_of_mem _ hz)) ?_ y c e
    intro z d q
    by_cases hk : (k == NameKind.free) = true
    · rw [if_pos hk, List.lookup_cons] at q
      obtain ⟨c', hc'⟩ := hf (n, k) List.mem_cons_self (by simpa using hk)
      cases hz : z == n with
      | true =>
        rw [hz] at q
        have hc' : cells.lookup n = some c' := hc'
        have q : some ((cells.lookup n).getD 0) = some d := q
        have : z = n := by simpa using hz
        rw [this, hc']
        rw [hc'] at q
        exact q
      | false =>
        rw [hz] at q
        exact h z d q
    · rw [if_neg hk] at q
      exact h z d q
theorem clGo_has {cells : List (Str × Addr)} : ∀ {names : List (Str × NameKind)} {acc : List (Str × Addr)} {y : Str}, ((y, NameKind.free) ∈ names ∨ ∃ c, acc.lookup y = some c) → ∃ c, (clGo cells names acc).lookup y = some c
  | [], acc, y, h => by
    rcases h with h | h
    · exact absurd h (by simp)
    · exact h
  | (n, k) :: r, acc, y, h => by
    refine clGo_has (names := r) ?_
    rcases h with h | ⟨c, h⟩
    · rcases List.mem_cons.mp h with e | h
      · right
        cases e
        refine ⟨(cells.lookup n).getD 0, ?_⟩
        rw [if_pos (by rfl), List.lookup_cons]
        simp
      · exact .inl h
    · right
      by_cases hk : (k == NameKind.free) = true
      · rw [if_pos hk, List.lookup_cons]
        cases y == n with
        | true => exact ⟨_, rfl⟩
        | false => exact ⟨c, h⟩
      · rw [if_neg hk]
        exact ⟨c, h⟩
theorem closureFor_is {scope : Scope} {env : Env} (h : ∀ y ∈ scope.names, y.2 = .free → ∃ c, env.cells.lookup y.1 = some c) : closureFor scope env = pure (clGo env.cells scope.names []) := by
  have go : ∀ (names : List (Str × NameKind)) (acc : List (Str × Addr)), (∀ y ∈ names, y.2 = .free → ∃ c, env.cells.lookup y.1 = some c) →
      (forIn names acc fun (x : Str × NameKind) r => (if (x.2 == NameKind.free) = true then cellOf env x.1 >>= fun c => pure (ForInStep.yield ((x.1, c) :: r)) else pure (ForInStep.yield r) : Sem (ForInStep (List (Str × Addr))))) = pure (clGo env.cells names acc) := by
    intro names
    induction names with
    | nil => intro acc _; rfl
    | cons x r ih =>
      intro acc hf
      obtain ⟨n, k⟩ := x
      rw [List.forIn_cons]
      dsimp only
      by_cases hk : (k == NameKind.free) = true
      · obtain ⟨c, hc⟩ := hf (n, k) List.mem_cons_self (by simpa using hk)
        have hc : env.cells.lookup n = some c := hc
        have ec : cellOf env n = pure c := by unfold cellOf; rw [hc]
        rw [if_pos hk, ec]
        have := ih ((n, c) :: acc) fun y hy => hf y (List.mem_cons_of_mem _ hy)
        unfold clGo
        rw [if_pos hk, hc]
        exact this
      · rw [if_neg hk]
        have := ih acc fun y hy => hf y (List.mem_cons_of_mem _ hy)
        unfold clGo
        rw [if_neg hk]
        exact this
  have := go scope.names [] h
  unfold closureFor
  first
    | exact this
    | (rw [← this]; rfl)
    | (simp only [bind_pure]; exact this)
def blockCx (X : Cx) (scope : Scope) (Nc : List Str) (C : Addr) (s₀ : Shared) (H₀ : Hp) (fp : List Addr) : Cx :=
  { X with N := Nc, s₀ := s₀, H₀ := H₀, env := compEnvC scope (clGo X.env.cells scope.names []) C X.env, outer := X.stack, ex := fp, fn := fun _ => false, pn := [], xe := fun _ _ => False }
structure Block (sc out : Scope) (N : List Str) (x : Str) (frees : List Str) (ix : List Nat) : Prop where
  kind : sc.kind = .function
  outk : out.kind = .function
  len : frees.length = ix.length
  at' : ∀ (j : Nat) (y : Str), frees[j]? = some y → ∃ i : Nat, ix[j]? = some i ∧ N[i]? = some y ∧ out.names.lookup y = some .cell ∧ sc.names.lookup y = some .free
  loc : sc.names.lookup x = some .local
  nocell : ∀ y ∈ sc.names, y.2 ≠ .cell
  locals : ∀ y ∈ sc.names, y.2 = .local → sc.names.lookup y.1 = some .local
  free : ∀ y ∈ sc.names, y.2 = .free → out.names.lookup y.1 = some .cell
  nd : (x :: frees).Nodup
def slots (σ : St) (ix : List Nat) : St := ix.map fun i => (σ[i]?).join
def tAll : List TT → TT
  | [] => fun _ H Q => Q true H
  | t :: r => fun σ H Q => t σ H fun b H1 => if b = true then tAll r σ H1 Q else Q false H1
def tComp (wi : TI) (ix : List Nat) (tc : TT) (te : TE) : TE := fun σ H Q => wi σ H fun J H1 => ∀ acc, H1 acc = none → ∃ W : Nat → Nat → Hp → Prop, (∃ m, W 0 m (upd H1 acc (.lst []))) ∧ ∀ i m H2, W i m H2 →
  (J.stop i H2 ∧ Q (.ref acc) H2) ∨ (J.go i H2 ∧ ∀ x H3, J.yld i H2 x H3 → tc (some x :: slots σ ix) H3 fun b H4 => if b = true then te (some x :: slots σ ix) H4 fun y H5 => ∃ ys, H5 acc = some (.lst ys) ∧ ys.length < sizeLine ∧
    ∃ m', m' < m ∧ W (i + 1) m' (upd H5 acc (.lst (ys ++ [y]))) else ∃ m', m' < m ∧ W (i + 1) m' H4)
theorem lookup_relabel_free {env : Env} (hk : env.scope.kind = .function) : ∀ {names : List (Str × NameKind)} {y : Str}, names.lookup y = some .free → env.kindOf y = some .cell →
    (names.map fun (n, k) => if (k == NameKind.free && env.scope.kind == .function && env.kindOf n == some .cell) then (n, NameKind.cell) else (n, k)).lookup y = some .cell
  | [], _, h, _ => by simp at h
  | (n, k) :: r, y, h, hc => by
    show List.lookup y ((if (k == NameKind.free && env.scope.kind == .function && env.kindOf n == some .cell) = true then (n, NameKind.cell) else (n, k)) :: _) = _
    cases hy : y == n with
    | true =>
      simp only [List.lookup_cons, hy] at h
      have hk' : k = .free := Option.some.inj h
      have : y = n := by simpa using hy
      subst this
      rw [if_pos (by rw [hk', hk, hc]; rfl)]
      simp [List.lookup_cons]
    | false =>
      simp only [List.lookup_cons, hy] at h
      have ih := lookup_relabel_free hk h hc
      split
      · simp only [List.lookup_cons, hy]; exact ih
      · simp only [List.lookup_cons, hy]; exact ih
theorem compLoop_any {prog : Program} {w : World} {A : Around} {R : Result → Shared → Prop} {s : Shared} {elt target iter : Expr} {ifs : List Expr} {scope : Scope} {pos : Pos} {it acc : Value} {env : Env} (I : Nat → Shared → Prop)
    (turn : ∀ n s, I n s → wpAny (model prog w) A (pyNext it) (fun r s₁ => match r with
      | none => R (.ok .next) s₁
      | some v => wpAny (model prog w) A (letOwnedTupleGo target it v) (fun _ s₁ => wpAny (model prog w) A (assign target env v) (fun _ s₂ =>
          wpAny (model prog w) A (forIn ifs true fun c r => if r = true then do let ok ← isTrue c env (eval c env); pure (ForInStep.yield ok) else pure (ForInStep.yield r)) (fun ok s₃ =>
            if ok = true then wpAny (model prog w) A (eval elt env) (fun x s₄ =>
              wpAny (model prog w) A (call (.builtin "list.append") [acc, x]) (fun _ s₅ => ∃ m, m < n ∧ I m s₅) (notedBy (model prog w) A env fun e s' => R (.error e) s') s₄) (notedBy (model prog w) A env fun e s' => R (.error e) s') s₃
            else ∃ m, m < n ∧ I m s₃) (notedBy (model prog w) A env fun e s' => R (.error e) s') s₂) (notedBy (model prog w) A env fun e s' => R (.error e) s') s₁) (notedBy (model prog w) A env fun e s' => R (.error e) s') s₁) (notedBy (model prog w) A env fun e s' => R (.error e) s') s)
    (n : Nat) (h : I n s) : codeAny (model prog w) A (.compLoop (.ListComp elt [⟨target, iter, ifs, 0⟩] scope pos) 0 it acc env) R s := by
  refine codeAny_loop rfl I (fun n s hI => ?_) n h
  show wpAny _ A ((compTurn (.ListComp elt [⟨target, iter, ifs, 0⟩] scope pos) 0 it acc env).onRaise (fun x => do noteFrame x env; theTreesLotGoes x)) _ _ s
  refine wpAny_noted ?_
  rw [compTurn_list]
  refine wpAny_bind (wpAny_standAt (wpAny_bind (wpAny_mono (turn n s hI) (fun r s₁ h₁ => ?_) fun _ _ h' => h')))
  cases r with
  | none => exact wpAny_pure h₁
  | some v =>
    refine wpAny_bind (wpAny_mono h₁ (fun _ s₁' h₁' => ?_) fun _ _ h' => h')
    refine wpAny_bind (wpAny_mono h₁' (fun _ s₂ h₂ => wpAny_bind (wpAny_mono h₂ (fun ok s₃ h₃ => ?_) fun _ _ h' => h')) fun _ _ h' => h')
    cases ok with
    | false => exact wpAny_pure ⟨rfl, h₃⟩
    | true =>
      exact wpAny_bind (wpAny_bind (wpAny_mono h₃ (fun x s₄ h₄ => wpAny_bind (wpAny_mono h₄ (fun _ s₅ h₅ => wpAny_pure (wpAny_pure ⟨rfl, h₅⟩)) fun _ _ h' => h')) fun _ _ h' => h'))
section
variable {X : Cx} {x : Str} {px pos : Pos} {elt iter : Expr} {ifs : List Expr} {scope : Scope} {frees : List Str} {ix : List Nat} {wi : TI} {tc : TT} {te : TE}
def PTs (X : Cx) (ifs : List Expr) (t : TT) : Prop :=
  ∀ (pins : List (Addr × Obj)) (s : Shared) (σ : St) (H : Hp) (Q : Bool → Hp → Prop), Inv X pins σ H s → t σ H Q →
    wpAny (model X.prog X.w) X.A (forIn ifs true fun c r => if r = true then do let ok ← isTrue c X.env (eval c X.env); pure (ForInStep.yield ok) else pure (ForInStep.yield r)) (TP X pins σ Q) X.xe s
def tYes : TT := fun _ H Q => Q true H
theorem pts_nil : PTs X [] tYes := fun pins s σ H Q I h => wpAny_pure ⟨H, I, h⟩
theorem pts_one {c : Expr} {t : TT} (hc : PT X c t) : PTs X [c] t := by
  intro pins s σ H Q I h
  rw [List.forIn_cons, if_pos rfl]
  refine wpAny_bind (wpAny_bind (thn (hc pins s σ H Q I h) fun b s1 h1 => wpAny_pure ?_))
  exact wpAny_pure h1
structure Apart (X : Cx) (pins : List (Addr × Obj)) (H : Hp) (C : Addr) : Prop where
  none : H C = none
  loc : C ≠ X.env.locals
  new : X.s₀.heap.objs.size ≤ C
  cell : ∀ x c, X.env.cells.lookup x = some c → c ≠ C
  pin : ∀ p ∈ X.pn ++ pins, p.1 ≠ C
theorem Inv.apart {pins : List (Addr × Obj)} {σ : St} {H H' : Hp} {s : Shared} {C : Addr} (I : Inv X pins σ H s) (h : s.heap.objs.size ≤ C) (n : H' C = none) : Apart X pins H' C := by
  have f := I.fpOk h n
  exact ⟨f.1, f.2.1, Nat.le_trans I.sz h, f.2.2.2.2.1, f.2.2.2.2.2⟩
theorem comp_run {pins : List (Addr × Obj)} {s₂ : Shared} {σ : St} {H₁ : Hp} {it : Addr} {fp : List Addr} {tn : Nat → Heap → Prop} {J : It} {RR : Value → Addr → Result → Shared → Prop} {E : Value → Shared → Prop} {KK : Addr → Hp → Prop}
    (B : Block scope X.env.scope X.N x frees ix) (hc : X.calm = true) (ht : ∀ C s₀ H₀ fp, PTs (blockCx X scope (x :: frees) C s₀ H₀ fp) ifs tc) (he : ∀ C s₀ H₀ fp, PE (blockCx X scope (x :: frees) C s₀ H₀ fp) elt te)
    (I₂ : Inv X pins σ H₁ s₂) (T : Turn X.prog X.w X.K (.Name x px) J fp it tn) (st₂ : tn 0 s₂.heap) (f₂ : ∀ b ∈ fp, FpOk X pins H₁ b)
    (q : ∀ acc, H₁ acc = none → ∃ W : Nat → Nat → Hp → Prop, (∃ m, W 0 m (upd H₁ acc (.lst []))) ∧ ∀ i m H2, W i m H2 →
      (J.stop i H2 ∧ KK acc H2) ∨ (J.go i H2 ∧ ∀ y H3, J.yld i H2 y H3 → tc (some y :: slots σ ix) H3 fun b H4 => if b = true then te (some y :: slots σ ix) H4 fun z H5 => ∃ ys, H5 acc = some (.lst ys) ∧ ys.length < sizeLine ∧
        ∃ m', m' < m ∧ W (i + 1) m' (upd H5 acc (.lst (ys ++ [z]))) else ∃ m', m' < m ∧ W (i + 1) m' H4))
    (hRR : ∀ acc C s' H', Inv X pins σ H' s' → KK acc H' → (∃ m, s'.heap.Ns C m) → Apart X pins H' C → RR (.ref acc) C (.ok .next) s') :
    wpAny (model X.prog X.w) X.A (newList []) (fun acc s₃ => wpAny (model X.prog X.w) X.A (newFunctionEnv scope X.env.globals (clGo X.env.cells scope.names []) [] X.env.qual none .none (some X.env)) (fun cenv s₄ =>
      codeAny (model X.prog X.w) X.A (.compStart (.ListComp elt [⟨.Name x px, iter, ifs, 0⟩] scope pos) 0 (.ref it) acc { cenv with scope := relabel scope X.env }) (RR acc cenv.locals) s₄) E s₃) E s₂ := by
  have frs_ok : ∀ y ∈ scope.names, y.2 = .free → ∃ c, X.env.cells.lookup y.1 = some c := fun y hy hk => I₂.ok.has y.1 (.inl (B.free y hy hk))
  have sound : ∀ y c, (clGo X.env.cells scope.names []).lookup y = some c → X.env.cells.lookup y = some c := clGo_sound frs_ok fun y c h => by simp at h
  refine wpAny_newObj_type ?_
  have hacc : H₁ s₂.heap.objs.size = none := I₂.hok.fresh (Nat.le_refl _)
  obtain ⟨W, ⟨m0, w0⟩, turn⟩ := q _ hacc
  have I₃ : Inv X pins σ (upd H₁ s₂.heap.objs.size (.lst [])) { s₂ with heap := s₂.heap.push { cls := .type "list", data := .seq ([] : List Value).toArray } } :=
    I₂.laid (t' := s₂.toks) (fun b u e => Heap.get?_push_of_some _ e) (Nat.le_refl _) ⟨Nat.zero_le _, [], 0, .nil, Heap.get?_push_size _ rfl⟩
  have f₃ : ∀ b ∈ fp, FpOk X pins (upd H₁ s₂.heap.objs.size (.lst [])) b := fun b hb => by
    obtain ⟨o, ho, _⟩ := T.obj 0 _ st₂ b hb
    have := f₂ b hb
    exact ⟨by rw [upd_ne (Nat.ne_of_lt (Heap.lt_size ho))]; exact this.1, this.2⟩
  have st₃ : tn 0 (s₂.heap.push { cls := .type "list", data := .seq ([] : List Value).toArray }) := T.keep 0 _ _ st₂ fun b hb o e => Heap.get?_push_of_some _ e
  generalize hs3 : ({ s₂ with heap := s₂.heap.push { cls := .type "list", data := .seq ([] : List Value).toArray } } : Shared) = s₃ at I₃
  have st₃ : tn 0 s₃.heap := by rw [← hs3]; exact st₃
  generalize s₂.heap.objs.size = acc at *
  show wpAny _ _ _ _ _ s₃
  generalize upd H₁ acc (.lst []) = H₃ at *
  refine wpAny_newFunctionEnv B.nocell (by intro y hy; simp at hy) (fun h₄ ns₄ sb₄ => ?_) B.kind
  try dsimp only at ns₄ sb₄ ⊢
  have keep₄ : ∀ b o, s₃.heap.get? b = some o → h₄.get? b = some o := fun b o e => (sb₄.2 b (Nat.ne_of_lt (Heap.lt_size e))).trans (Heap.get?_push_of_some _ e)
  have st₄ : tn 0 h₄ := T.keep 0 _ _ st₃ fun b hb o e => keep₄ b o e
  have freshC : H₃ s₃.heap.objs.size = none := I₃.hok.fresh (Nat.le_refl _)
  have objs : ∀ b ∈ fp, b < s₃.heap.objs.size := fun b hb => by
    obtain ⟨o, ho, _⟩ := T.obj 0 _ st₃ b hb
    exact Heap.lt_size ho
  have stk : ∀ b ∈ fp, b ∉ frs X.stack := fun b hb z => by
    have f := f₃ b hb
    rcases List.mem_cons.mp (I₃.stkSub b z) with e | e
    · exact f.2.1 e
    · exact f.2.2.1 e
  have Ok : (blockCx X scope (x :: frees) s₃.heap.objs.size s₃ H₃ fp).Ok := by
    refine ⟨I₃.ok.mod, B.kind, I₃.ok.glob, I₃.ok.blt, Nat.le_refl _, fun y z c h1 h2 => I₃.ok.inj y z c (sound y c h1) (sound z c h2), fun y hy => ?_, fun y c h => (nomatch h), I₃.ok.hd, I₃.ok.frames, .inl rfl,
      fun b hb => ⟨Nat.ne_of_lt (objs b hb), fun y c h => (f₃ b hb).2.2.2.2.1 y c (sound y c h)⟩, I₃.bs, Nat.le_trans I₃.ok.bsz I₃.sz, fun b o e hb => ?_, stk, I₃.stack, I₃.stkFree⟩
    · have hy : (relabel scope X.env).names.lookup y = some .cell ∨ (relabel scope X.env).names.lookup y = some .free := hy
      refine clGo_has (.inl ?_)
      have mem : ∃ k, (k = .cell ∨ k = .free) ∧ (y, k) ∈ (relabel scope X.env).names := by
        rcases hy with q | q
        · exact ⟨_, .inl rfl, PySem.mem_of_lookup q⟩
        · exact ⟨_, .inr rfl, PySem.mem_of_lookup q⟩
      obtain ⟨k, hk, hm⟩ := mem
      obtain ⟨⟨n, k0⟩, h0, e⟩ := List.mem_map.mp hm
      have nc := B.nocell (n, k0) h0
      dsimp only at e
      split at e
      · rename_i hh
        cases e
        have : (k0 == NameKind.free) = true := by
          cases hq : (k0 == NameKind.free) with
          | true => rfl
          | false => rw [hq] at hh; simp at hh
        have : k0 = .free := by simpa using this
        rw [this] at h0
        exact h0
      · cases e
        rcases hk with hk | hk
        · exact absurd hk nc
        · rw [hk] at h0; exact h0
    · rcases (f₃ b hb).2.2.2.1 with z | z
      · exact I₃.ok.noex b o e z
      · exact absurd (Nat.lt_of_lt_of_le (Heap.lt_size e) (Nat.le_trans I₃.ok.bsz z)) (Nat.lt_irrefl _)
  have Ic : Inv (blockCx X scope (x :: frees) s₃.heap.objs.size s₃ H₃ fp) [] (none :: slots σ ix) H₃ { s₃ with heap := h₄, toks := s₃.toks + ([] : List (Str × Value)).length } := by
    refine ⟨Ok, rfl, I₃.bare, Un.kept keep₄, ⟨_, ns₄, fun i y v e1 e2 e3 => ?_⟩, fun y c h => ?_, freshC, fun y c h => I₃.freeC y c (sound y c h), fun p hp => absurd (show p ∈ ([] : List (Addr × Obj)) from hp) (by simp), I₃.hok.kept keep₄, ?_⟩
    · cases i with
      | zero => cases e2
      | succ j =>
        have e1 : frees[j]? = some y := e1
        have e2 : (slots σ ix)[j]? = some (some v) := e2
        obtain ⟨i, hi, hN, hk, hf⟩ := B.at' j y e1
        have hv : σ[i]? = some (some v) := by
          unfold slots at e2
          rw [List.getElem?_map, hi] at e2
          have e2 : some ((σ[i]?).join) = some (some v) := e2
          have e2 := Option.some.inj e2
          cases q : σ[i]? with
          | none => rw [q] at e2; cases e2
          | some o => rw [q] at e2; exact congrArg some e2
        obtain ⟨m, hn, hl⟩ := I₃.loc
        obtain ⟨u, ru, lu⟩ := hl i y v hN hv (.inr (.inl hk))
        refine ⟨u, ru, .inr ⟨.inl ?_, ?_⟩⟩
        · exact lookup_relabel_free B.outk hf hk
        · rcases lu with ⟨k, _⟩ | ⟨_, c, hc', z⟩
          · exact absurd (show some NameKind.cell = some NameKind.local from hk.symm.trans k) (by decide)
          · obtain ⟨c', hc''⟩ := clGo_has (cells := X.env.cells) (acc := []) (.inl (PySem.mem_of_lookup hf))
            have q := sound y c' hc''
            rw [hc'] at q
            cases q
            obtain ⟨o, ho, hd⟩ := z
            exact ⟨c, hc'', o, keep₄ c o ho, hd⟩
    · obtain ⟨v, o, ho, hd⟩ := I₃.cell y c (sound y c h)
      exact ⟨v, o, keep₄ c o ho, hd⟩
    · show (none :: slots σ ix).length = (x :: frees).length
      rw [List.length_cons, List.length_cons, slots, List.length_map, B.len]
  have fpc : ∀ {H' : Hp} {pl : List (Addr × Obj)}, (∀ p ∈ pl, p.1 ∉ fp) → (∀ b ∈ fp, H' b = none) → ∀ b ∈ fp, FpOk (blockCx X scope (x :: frees) s₃.heap.objs.size s₃ H₃ fp) pl H' b := fun hp hn b hb =>
    ⟨hn b hb, Nat.ne_of_lt (objs b hb), stk b hb, .inl hb, fun y c h => (f₃ b hb).2.2.2.2.1 y c (sound y c h), fun p hpl z => hp p hpl (z ▸ hb)⟩
  have hxl : Loc (blockCx X scope (x :: frees) s₃.heap.objs.size s₃ H₃ fp).env.scope x := .inl (lookup_relabel_local B.loc)
  have loop : codeAny (model X.prog X.w) X.A (.compLoop (.ListComp elt [⟨.Name x px, iter, ifs, 0⟩] scope pos) 0 (.ref it) (.ref acc) (blockCx X scope (x :: frees) s₃.heap.objs.size s₃ H₃ fp).env) (RR (.ref acc) s₃.heap.objs.size)
      { s₃ with heap := h₄, toks := s₃.toks + ([] : List (Str × Value)).length } := by
    refine compLoop_any (fun n s' => ∃ i H', Inv (blockCx X scope (x :: frees) s₃.heap.objs.size s₃ H₃ fp) [] (none :: slots σ ix) H' s' ∧ tn i s'.heap ∧ (∀ b ∈ fp, H' b = none) ∧ W i n H') ?_ m0 ⟨0, H₃, Ic, st₄, fun b hb => (f₃ b hb).1, w0⟩
    rintro n s' ⟨i, H', I', st', fr', w'⟩
    rcases turn i n H' w' with ⟨stop, kk⟩ | ⟨go, step⟩
    · refine thn (T.done (blockCx X scope (x :: frees) s₃.heap.objs.size s₃ H₃ fp) rfl rfl rfl hc i [] s' _ H' _ I' (fpc (by simp) fr') st' stop) fun r s1 ⟨hr, I1⟩ => ?_
      subst hr
      obtain ⟨m, hn, _⟩ := I1.loc
      exact hRR acc _ s1 H' (I₃.call' (ch := fp) I1.os I1.base I1.hok I1.bare fun b hb => ⟨(f₃ b hb).2.2.2.1, (f₃ b hb).2.1, (f₃ b hb).2.2.2.2.1, (f₃ b hb).2.2.2.2.2⟩) kk ⟨m, hn⟩ (I₃.apart (Nat.le_refl _) I1.free)
    · refine thn (T.item (blockCx X scope (x :: frees) s₃.heap.objs.size s₃ H₃ fp) rfl rfl rfl hc i [] s' _ H' _ I' (fpc (by simp) fr') st' go) fun r s1 ⟨u, hr, h1⟩ => ?_
      subst hr
      refine thn h1 fun _ s2 ⟨v, H2, I2, rv, yv, st2, fr2⟩ => ?_
      have I2' := I2.pinned (fpc (by simp) fr2) (T.obj _ _ st2)
      have nofail : ∀ {α : Type} {t : Sem α} {Q : α → Shared → Prop} {E' : Value → Shared → Prop} {s : Shared}, wpAny (model X.prog X.w) X.A t Q (fun _ _ => False) s → wpAny (model X.prog X.w) X.A t Q E' s := fun h => wpAny_mono h (fun _ _ x => x) fun _ _ f => f.elim
      refine wpAny_assign_Name (store_ok (X := blockCx X scope (x :: frees) s₃.heap.objs.size s₃ H₃ fp) (i := 0) I2' B.nd rfl hxl rv (fun s3 I3 => ?_) (.inr (lookup_relabel_local B.loc)))
      refine nofail (thn (ht s₃.heap.objs.size s₃ H₃ fp _ s3 (some v :: slots σ ix) H2 _ I3 (step v H2 yv)) fun b s4 ⟨H4, I4, q4⟩ => ?_)
      have again : ∀ {σ7 : St} {H7 : Hp} {s7 : Shared} {k : Nat}, Inv (blockCx X scope (x :: frees) s₃.heap.objs.size s₃ H₃ fp) ([] ++ pinsAt fp s2.heap) (some v :: slots σ ix) H7 s7 → k < n → W (i + 1) k H7 →
          ∃ m, m < n ∧ ∃ i H', Inv (blockCx X scope (x :: frees) s₃.heap.objs.size s₃ H₃ fp) [] (none :: slots σ ix) H' s7 ∧ tn i s7.heap ∧ (∀ b ∈ fp, H' b = none) ∧ W i m H' := fun {σ7 H7 s7 k} I7 hk w7 => by
        refine ⟨k, hk, i + 1, H7, I7.unpinned.weak rfl (fun j z e => ?_), T.keep _ _ _ st2 fun b hb o e => (I7.pin (b, o) (List.mem_append_right _ (List.mem_append_right _ (mem_pinsAt hb e)))).1, fun b hb => ?_, w7⟩
        · cases j with
          | zero => cases e
          | succ j => exact e
        · obtain ⟨o, e, d⟩ := T.obj _ _ st2 b hb
          exact (I7.pin (b, o) (List.mem_append_right _ (List.mem_append_right _ (mem_pinsAt hb e)))).2.1
      cases b with
      | false =>
        rw [if_neg Bool.false_ne_true] at q4 ⊢
        obtain ⟨m', hm, w4⟩ := q4
        exact again (σ7 := []) I4 hm w4
      | true =>
        rw [if_pos rfl] at q4 ⊢
        refine nofail (thn (he s₃.heap.objs.size s₃ H₃ fp _ s4 (some v :: slots σ ix) H4 _ I4 q4) fun ue s5 ⟨z, H5, I5, r5, ys, hys, hlt, m', hm, w5⟩ => ?_)
        refine nofail (thn (mt_append (X := blockCx X scope (x :: frees) s₃.heap.objs.size s₃ H₃ fp) _ s5 _ H5 (.ref acc) [z] (.ref acc) [ue] (fun _ H6 => H6 = upd H5 acc (.lst (ys ++ [z]))) I5 rfl (.cons r5 .nil) ⟨acc, ys, z, rfl, rfl, hys, hlt, rfl⟩) fun _ s6 ⟨_, H6, I6, _, e6⟩ => ?_)
        subst e6
        exact again (σ7 := []) I6 hm w5
  exact codeAny_compStart_list loop (T.self X.A 0 _ _ _ st₄ loop)
def EnvOk (X : Cx) (scope : Scope) (x : Str) (frees : List Str) (ix : List Nat) : Prop := Block scope X.env.scope X.N x frees ix
theorem pe_comp (B : Block scope X.env.scope X.N x frees ix) (hc : X.calm = true) (hi : PI X (.Name x px) iter wi) (ht : ∀ C s₀ H₀ fp, PTs (blockCx X scope (x :: frees) C s₀ H₀ fp) ifs tc) (he : ∀ C s₀ H₀ fp, PE (blockCx X scope (x :: frees) C s₀ H₀ fp) elt te)
    (hs : ∀ y, foldedSetIterable iter X.env y = pure y := by intro _; rfl) : PE X (.ListComp elt [⟨.Name x px, iter, ifs, 0⟩] scope pos) (tComp wi ix tc te) := by
  intro pins s σ H Q I h
  rw [eval_ListComp]
  refine wpAny_comprehension_free (use := none) rfl hs (closureFor_is fun y hy hk => I.ok.has y.1 (.inl (B.free y hy hk))) B.kind B.locals (thn (hi pins s σ H _ I h) fun v s1 h1 => thn h1 fun itv s2 h2 => ?_)
  obtain ⟨it, fp, tn, J, H2, e, I2, T, st2, f2, q⟩ := h2
  subst e
  refine comp_run (KK := fun acc H' => Q (.ref acc) H') B hc ht he I2 T st2 f2 q fun acc C s' H' I' k hn ap => ?_
  obtain ⟨m, hn⟩ := hn
  exact ⟨m, hn, fun h' sb => ⟨.ref acc, H', I'.turned (it := C) (t' := s'.toks) (fun b o hb e => (sb.2 b hb).trans e) ap.none ap.loc (.inr ap.new) ap.cell ap.pin, rfl, k⟩⟩
end
end L2
set_option Elab.async false
set_option linter.all false
set_option maxRecDepth 100000
set_option maxHeartbeats 4000000
namespace L2
open PySem PySem.Spec PyProof.Rows
structure Callee (P : Program) (w : World) (K : PySem.W.Frag) (mg : Str → Option Value) (base : Heap) (x : Str) (k : Nat) (ps : List Str) (sp : Sp) : Prop where
  ex : ∃ f fd, mg x = some (.ref f) ∧ PySem.W.keepIn K (.ref f) = true ∧ Binds K fd ps [] ∧ FnOk P w K mg base CX0 k f fd ps sp
theorem pe_callC {X : Cx} {x : Str} {k n : Nat} {ps : List Str} {sp : Sp} {e : Expr} {es : List Expr} {t : TA} {p pos : Pos} (C : Callee X.prog X.w X.K X.mg X.base x k ps sp) (hr : Room n X.A) (hk : k ≤ n) (hg : Gl X x) (ha : PA X (e :: es) t)
    (hdb : (x == ("__debug__" : Str)) = false := by decide) (he : starEach (e :: es) X.env = (false, eval e X.env) :: starEach es X.env := by rfl) (hpl : (backTo pos (starEach es X.env)).any (·.1) = false := by rfl) :
    PE X (.Call (.Name x p) (e :: es) [] pos) (tCall sp [] E0 t) := by
  obtain ⟨f, fd, hm, hkp, hb, F⟩ := C.ex
  exact pe_call (F.mono hk) hr hg hm hkp hb .nil pass0 ha hdb he hpl
structure HasDef (K : PySem.W.Frag) (mg : Str → Option Value) (x : Str) (st : Stmt) : Prop where
  ex : ∃ f fd, Fun K x x st f fd ∧ mg x = some (.ref f)
theorem hasDef {K : PySem.W.Frag} {h : Heap} {mg : Str → Option Value} {x : Str} {st : Stmt} {f : Addr} {oc : Value} {od an : Option Addr} {osl : Array (Option Value)} {kV doc pm cdv ct : Value} (X : K.In h) (G : h.Ns mainGlobals mg)
    (a : PySem.W.nsIn K mainGlobals x = some (some (.ref f))) (l : K.lookup f = some ⟨oc, od, .func (PySem.W.fnOf x x (defArgs st) (defBody st) (defScope st) .none kV doc pm an cdv ct), osl⟩)
    (c : PySem.W.codeIn K cdv x = true) (k : PySem.W.keepIn K (.ref f) = true) : HasDef K mg x st := ⟨f, _, fun_mk l c k, PySem.W.mg_of X G a⟩
theorem HasDef.ok {P : Program} {w : World} {K : PySem.W.Frag} {mg : Str → Option Value} {base : Heap} {x : Str} {st : Stmt} {N ps : List Str} {n : Nat} {sp : Sp} (D : HasDef K mg x st) (S : FnScope N ps (defScope st))
    (hb : ∀ (kV doc pm : Value) (an : Option Addr) (cdv ct : Value) (us : List Value), us.length = ps.length → bindArgs (PySem.W.fnOf x x (defArgs st) (defBody st) (defScope st) .none kV doc pm an cdv ct) ⟨us, []⟩ = pure (ps.zip us))
    (len : ∀ vs H Q E, sp vs H Q E → vs.length = ps.length)
    (hbody : ∀ (f : Addr) (cdv : Value) (A : Around) (outer : List Env) (s : Shared) (H : Hp) (vs : List V) (Q : VK) (E : XK), Room n (A.deeper (envOfC x (defScope st) s.heap.objs.size f cdv)) → sp vs H Q E →
      ∃ t, PSs (cxOf CX0 P w K mg base N x (defScope st) f cdv A outer s H E).nox (defBody st) t ∧ t { nx := fun _ H' => Q .non H', rt := Q } (start N vs) H) : Callee P w K mg base x (n + 1) ps sp := by
  obtain ⟨f, fd, F, hm⟩ := D.ex
  exact ⟨f, fd, hm, F.kp, F.binds hb, F.ok S len fun cdv A outer s H vs Q E hr h => hbody f cdv A outer s H vs Q E hr h⟩
theorem Callee.imp {P : Program} {w : World} {K : PySem.W.Frag} {mg : Str → Option Value} {base : Heap} {x : Str} {k : Nat} {ps : List Str} {sp sp' : Sp} (C : Callee P w K mg base x k ps sp) (h : ∀ vs H Q E, sp' vs H Q E → sp vs H Q E) : Callee P w K mg base x k ps sp' := by
  obtain ⟨f, fd, hm, hkp, hb, F⟩ := C.ex
  exact ⟨f, fd, hm, hkp, hb, F.imp h⟩
theorem call_isi {X : Cx} : CallR X (.builtin "isinstance") (fun xs H Q => ∃ x T t b, xs = [x, .ty T] ∧ TyOf X.K H x t ∧ PySem.W.kitOne X.K t (.type T) = some b ∧ Q (.bl b) H) := by
  intro pins s σ H xs us Q I r h
  obtain ⟨x, T, t, b, rfl, ty, e, q⟩ := h
  obtain ⟨u, v, rfl, ru, rv⟩ := vals2 r
  cases rv
  exact isinst_ok I ru ty e fun tk => ⟨.bl b, H, I.tok tk, rfl, q⟩
def GInt (mg : Str → Option Value) (x : Str) (n : Int) : Prop := ∃ t, mg x = some (.int n t)
def GTup (K : PySem.W.Frag) (mg : Str → Option Value) (x : Str) (xs : List V) : Prop := ∃ a, mg x = some (.ref a) ∧ ∀ H : Hp, SqT K H a xs
theorem pe_globI {X : Cx} {x : Str} {n : Int} {pos : Pos} (h : GInt X.mg x n) (hg : Gl X x := by rfl) (hd : (x == ("__debug__" : Str)) = false := by decide) : PE X (.Name x pos) (tC (.int n)) := by
  obtain ⟨t, hm⟩ := h
  exact pe_glob hg hm ⟨t, rfl⟩ hd
def tGT (K : PySem.W.Frag) (xs : List V) : TE := fun _ H Q => ∀ a, (∀ H, SqT K H a xs) → Q (.ref a) H
theorem glob_int {K : PySem.W.Frag} {h : Heap} {mg : Str → Option Value} {x : Str} {n : Int} {t : Tok} (X : K.In h) (G : h.Ns mainGlobals mg) (a : PySem.W.nsIn K mainGlobals x = some (some (.int n t))) : GInt mg x n := ⟨t, PySem.W.mg_of X G a⟩
def spLaw (K : PySem.W.Frag) : Sp := fun vs H Q _ => ∃ (a : Addr) (ns : List Int), vs = [.ref a] ∧ SqL K H a (ns.map V.int) ∧ ns.length ≤ 63 ∧ ∀ H', Q (.bl true) H'
def cell (ns : List Int) (k : Nat) : Int := ns.getD k 0
def spCell (K : PySem.W.Frag) : Sp := fun vs H Q _ => ∃ (a : Addr) (ns : List Int) (k : Nat), vs = [.ref a, .int k] ∧ SqL K H a (ns.map V.int) ∧ Q (.int (cell ns k)) H
theorem law_walk {l : PySem.W.OpenLaw} {q : Program} {loose : List Str} {XP : (Str → Option Value) → Heap → Prop} {YP : World → Heap → Prop} {d : DefRec} {K : Params → PySem.W.Frag} {k : Nat} {st : Stmt} (hr : Room k callerA) (hn : l.most = some 63) (hdf : d.params.defaults = []) (hdn : d.name = "law")
    (hb : ∀ (kV doc pm : Value) (an : Option Addr) (cdv ct : Value) (u : Value), bindArgs (PySem.W.fnOf "law" "law" (defArgs st) (defBody st) (defScope st) .none kV doc pm an cdv ct) ⟨[u], []⟩ = pure [(("script" : Str), u)])
    (hY : ∀ (w : World) (h : Heap), YP w h → (K w.params).In h)
    (F : ∀ (w : World) (mg : Str → Option Value) (h : Heap), (K w.params).In h → h.Ns mainGlobals mg → HasDef (K w.params) mg "law" st ∧
      ∀ (base : Heap) (f : Addr) (fd : FuncData), Fun (K w.params) "law" "law" st f fd → FnOk l.prog w (K w.params) mg base CX0 k f fd ["script"] (spLaw (K w.params))) :
    PySem.W.WalkO q loose XP YP l.row.toRowW d [] (fun f vs => PySem.call f vs) := by
  refine walk_ofK (n := 63) (k := k) (x := "script") (CX := CX0) (sp := spLaw) hn (by decide) hdf hr hY (fun w mg fa h KX G hmg => ?_) (fun K H a ns hl _ hS => ⟨a, ns, rfl, hS, hl, fun _ => rfl⟩) (fun _ _ _ _ z => z)
  obtain ⟨D, ok⟩ := F w mg h KX G
  obtain ⟨f, fd, Fn, hm⟩ := D.ex
  rw [hdn, hm] at hmg
  cases hmg
  refine ⟨fd, fun s u => ?_, fun base _ _ => ok base _ fd Fn⟩
  obtain ⟨oc, od, kV, doc, pm, an, cdv, ct, osl, rfl, lk, hcd⟩ := Fn.ex
  exact .of_eq (hb kV doc pm an cdv ct u)
theorem bt_int : bootBuiltins "int" = some (.type "int") := by decide +kernel
theorem bt_bool : bootBuiltins "bool" = some (.type "bool") := by decide +kernel
theorem bt_list : bootBuiltins "list" = some (.type "list") := by decide +kernel
theorem bt_tuple : bootBuiltins "tuple" = some (.type "tuple") := by decide +kernel
theorem bt_len : bootBuiltins "len" = some (.builtin "len") := by decide +kernel
theorem bt_isinstance : bootBuiltins "isinstance" = some (.builtin "isinstance") := by decide +kernel
theorem bt_sorted : bootBuiltins "sorted" = some (.builtin "sorted") := by decide +kernel
section
variable {CX : CXT} {P : Program} {w : World} {K : PySem.W.Frag} {mg : Str → Option Value} {base : Heap} {N : List Str} {qual : Str} {scope : Scope} {f : Addr} {cd : Value} {A : Around} {outer : List Env} {s : Shared} {H : Hp} {E : XK}
theorem cxK : (cxOf CX P w K mg base N qual scope f cd A outer s H E).K = K := rfl
theorem bkK {X : Cx} {Nc : List Str} {C : Addr} {s₀ : Shared} {H₀ : Hp} {fp : List Addr} : (blockCx X scope Nc C s₀ H₀ fp).K = X.K := rfl
theorem noxK {X : Cx} : X.nox.K = X.K := rfl
end
theorem pe_ty {X : Cx} {x : Str} {T : String} {pos : Pos} (hm : X.mg x = none) (hv : bootBuiltins x = some (.type T)) (hg : Gl X x := by rfl) (hn : x ≠ "__name__" := by decide) (hd : (x == ("__debug__" : Str)) = false := by decide) : PE X (.Name x pos) (tC (.ty T)) :=
  pe_bltn (v := .ty T) hg hm hv rfl hn hd
theorem same_new {H : Hp} {p : Addr} (h : H p = none) (o : HO) : Same H (upd H p o) := fun b u q => by rw [upd_ne (ne_of_none q h)]; exact q
end L2
set_option Elab.async false
set_option linter.all false
set_option maxRecDepth 100000
set_option maxHeartbeats 4000000
namespace L2
open PySem PySem.Spec PyProof.Rows
def blockB (sc out : Scope) (N : List Str) (x : Str) (frees : List Str) (ix : List Nat) : Bool :=
  decide (sc.kind = .function) && decide (out.kind = .function) && decide (frees.length = ix.length) &&
  ((List.range frees.length).all fun j => match frees[j]?, ix[j]? with
    | some y, some i => decide (N[i]? = some y) && decide (out.names.lookup y = some .cell) && decide (sc.names.lookup y = some .free)
    | _, _ => false) &&
  decide (sc.names.lookup x = some .local) &&
  (sc.names.all fun y => decide (y.2 ≠ .cell) && (decide (y.2 ≠ .local) || decide (sc.names.lookup y.1 = some .local)) && (decide (y.2 ≠ .free) || decide (out.names.lookup y.1 = some .cell))) &&
  decide (x :: frees).Nodup
theorem Block.of {sc out : Scope} {N : List Str} {x : Str} {frees : List Str} {ix : List Nat} (h : blockB sc out N x frees ix = true) : Block sc out N x frees ix := by
  unfold blockB at h
  simp only [Bool.and_eq_true, decide_eq_true_eq, List.all_eq_true] at h
  obtain ⟨⟨⟨⟨⟨⟨h1, h2⟩, h3⟩, h4⟩, h5⟩, h6⟩, h7⟩ := h
  refine ⟨h1, h2, h3, fun j y hy => ?_, h5, fun y hy => (h6 y hy).1.1, fun y hy hl => ?_, fun y hy hl => ?_, h7⟩
  · have hj : j < frees.length := (List.getElem?_eq_some_iff.mp hy).1
    have q := h4 j (List.mem_range.mpr hj)
    rw [hy] at q
    cases e : ix[j]? with
    | none => rw [e] at q; cases q
    | some i =>
      rw [e] at q
      simp only [Bool.and_eq_true, decide_eq_true_eq] at q
      exact ⟨i, rfl, q.1.1, q.1.2, q.2⟩
  · have q := (h6 y hy).1.2
    rw [Bool.or_eq_true] at q
    rcases q with q | q
    · exact absurd hl (of_decide_eq_true q)
    · exact of_decide_eq_true q
  · have q := (h6 y hy).2
    rw [Bool.or_eq_true] at q
    rcases q with q | q
    · exact absurd hl (of_decide_eq_true q)
    · exact of_decide_eq_true q
theorem comp_range {wi : TI} {ix : List Nat} {te : TE} {σ : St} {H H1 : Hp} {Q : VK} {lo : Int} {n : Nat} (f : Nat → V) (hw : ∀ R : It → Hp → Prop, R (Itr lo n) H1 → wi σ H R) (hn : n < sizeLine)
    (he : ∀ (i : Nat) (H' : Hp) (R : VK), i < n → Same H1 H' → R (f i) H' → te (some (.int (lo + i)) :: slots σ ix) H' R) (q : ∀ acc, H1 acc = none → Q (.ref acc) (upd H1 acc (.lst ((List.range n).map f)))) :
    tComp wi ix tYes te σ H Q := by
  refine hw _ fun acc hacc => ⟨fun i m H2 => i ≤ n ∧ m = n - i ∧ H2 = upd H1 acc (.lst ((List.range i).map f)), ⟨n, Nat.zero_le _, by simp, by simp⟩, ?_⟩
  rintro i m H2 ⟨hi, rfl, rfl⟩
  by_cases hlt : i < n
  · refine .inr ⟨hlt, ?_⟩
    rintro x H3 ⟨rfl, rfl⟩
    unfold tYes
    dsimp only
    rw [if_pos rfl]
    refine he i _ _ hlt (same_new hacc _) ⟨_, upd_same, ?_, n - (i + 1), by omega, hlt, rfl, ?_⟩
    · rw [List.length_map, List.length_range]; omega
    · rw [upd_upd, List.range_succ, List.map_append]
      rfl
  · have e : i = n := by omega
    subst e
    exact .inl ⟨Nat.le_refl _, q acc hacc⟩
end L2
set_option Elab.async false
set_option linter.all false
set_option maxRecDepth 100000
set_option maxHeartbeats 4000000
namespace L2
open PySem
def excRec (cls a0 x1 : Value) : Obj := { cls := cls, data := .fields #[a0, x1, .none, .none, .bool false, .none] }
structure Exc (B : Heap) (l : List Env) (e : Addr) (cls fl : Value) (h : Heap) : Prop where
  stays : B.StaysIn h
  new : B.get? e = none
  frames : h.FunFrames B l
  rcd : ∃ (a0 : Value) (T : Addr) (oT : Obj) (ts : Array Value), h.get? e = some (excRec cls a0 (.ref T)) ∧ B.get? T = none ∧ T ≠ e ∧ h.get? T = some oT ∧ oT.data = .fields ts ∧ ts[3]? = some fl
section
variable {M : Model} {A : Around} {E : Value → Shared → Prop} {s : Shared} {B : Heap} {env : Env} {outer : List Env} {L e : Addr} {cls a0 x1 head fl : Value} {hadNext : Bool} {Q : Unit → Shared → Prop}
theorem mapped (a0 x1 y : Value) (cls : Value) : Obj.mapFields (·.setIfInBounds 1 y) (excRec cls a0 x1) = excRec cls a0 y := rfl
theorem exc_entry (hfr : A.frames = some (env :: outer)) (hf : env.frame = some L) (st : B.StaysIn s.heap) (new : B.get? e = none) (fr : s.heap.FunFrames B (env :: outer)) (he : s.heap.get? e = some (excRec cls a0 x1))
    (h : ∀ h', Exc B (env :: outer) e cls (rawInt L) h' → s.heap.UpToSlots h' → Q () { s with heap := h' }) :
    wpAny M A (do setField (.ref e) 1 (← EntryCells.newEntry head (← frameOf env) .none (rawInt L) .none (← entryPlaceOf L hadNext))) Q E s := by
  have enf : e ∉ (env :: outer).filterMap (·.frame) := fun hm => by
    obtain ⟨_, o, ho, nf⟩ := fr.mem hm
    rw [he] at ho
    cases ho
    exact nf _ rfl
  refine wpAny_bind (wpAny_frameOf_fun hfr fr hf fun h1 so => ?_)
  refine wpAny_bind (wpAny_entryPlaceOf fun pl hpl => ?_)
  have he1 : h1.get? e = some (excRec cls a0 x1) := (so.2.1 e enf).trans he
  have st1 : B.StaysIn h1 := fun b o q => (so.2.1 b fun hm => by
    have := (fr.mem hm).1
    rw [q] at this
    cases this).trans (st b o q)
  unfold EntryCells.newEntry newFields
  refine wpAny_bind (wpAny_newObj_type ?_ (hpl.sizeOk5 _ _ _ _ _))
  generalize hN : ({ cls := .type "traceback", dict := none, data := .fields ([head, Value.ref L, .none, rawInt L, .none] ++ (if pl.isEmpty then List.replicate 6 Value.none else pl)).toArray } : Obj) = N
  have hNd : ∃ ts : Array Value, N.data = .fields ts ∧ ts[3]? = some (rawInt L) := ⟨_, by rw [← hN], by simp⟩
  have hNf : N.isFreed = false := by rw [← hN]; rfl
  have he2 : (h1.push N).get? e = some (excRec cls a0 x1) := Heap.get?_push_of_some _ he1
  refine wpAny_setField he2 rfl (show 1 < 6 by decide) ?_
  have he3 := Heap.get?_update_self (Obj.mapFields (·.setIfInBounds 1 (Value.ref h1.objs.size))) he2 rfl
  rw [mapped] at he3
  have hTe : h1.objs.size ≠ e := Nat.ne_of_gt (Heap.lt_size he1)
  have keep : ∀ b o, b ≠ e → h1.get? b = some o → ((h1.push N).update e (Obj.mapFields (·.setIfInBounds 1 (Value.ref h1.objs.size)))).get? b = some o := fun b o nb q => by
    rw [Heap.get?_update_other _ _ (Ne.symm nb)]
    exact Heap.get?_push_of_some _ q
  have noe : ∀ b o, s.heap.get? b = some o → (∀ vs, o.data ≠ .fields vs) → b ≠ e := fun b o q nf z => by
    rw [z, he] at q
    cases q
    exact nf _ rfl
  refine h _ ⟨fun b o q => keep b o (fun z => by rw [z, new] at q; cases q) (st1 b o q), new, fr.of_keeps fun b o q nf => ?_, ?_⟩ fun b o q nf => ?_
  · obtain ⟨sl, q1⟩ := so.2.2 b o q
    exact ⟨_, keep b _ (noe b o q nf) q1, rfl⟩
  · obtain ⟨ts, d1, d2⟩ := hNd
    refine ⟨a0, h1.objs.size, N, ts, he3, st1.fresh, hTe, ?_, d1, d2⟩
    rw [Heap.get?_update_other _ _ (Ne.symm hTe)]
    exact Heap.get?_push_size _ hNf
  · obtain ⟨sl, q1⟩ := so.2.2 b o q
    exact ⟨sl, keep b _ (noe b o q nf) q1⟩
theorem note_made (hfr : A.frames = some (env :: outer)) (hf : env.frame = some L) (st : B.StaysIn s.heap) (new : B.get? e = none) (fr : s.heap.FunFrames B (env :: outer)) (he : s.heap.get? e = some (excRec cls a0 .none))
    (h : ∀ h', Exc B (env :: outer) e cls (rawInt L) h' → s.heap.UpToSlots h' → Q () { s with heap := h' }) : wpAny M A (noteFrame (.ref e) env) Q E s := by
  unfold noteFrame
  simp only [hf]
  refine wpAny_bind (wpAny_field (i := 1) (x := .none) he rfl rfl ?_)
  rw [if_neg (by decide)]
  exact exc_entry hfr hf st new fr he h
theorem note_come (hfr : A.frames = some (env :: outer)) (hf : env.frame = some L) (X : Exc B (env :: outer) e cls .none s.heap)
    (h : ∀ h', Exc B (env :: outer) e cls (rawInt L) h' → s.heap.UpToSlots h' → Q () { s with heap := h' }) : wpAny M A (noteFrame (.ref e) env) Q E s := by
  obtain ⟨st, new, fr, b0, T, oT, ts, he, nT, Te, hT, dT, h3⟩ := X
  unfold noteFrame
  simp only [hf]
  refine wpAny_bind (wpAny_field (i := 1) (x := .ref T) he rfl rfl ?_)
  rw [if_pos (show (Value.ref T != Value.none) = true from by simp)]
  refine wpAny_bind (wpAny_field hT dT h3 ?_)
  rw [if_neg (show ¬ ((Value.none == rawInt L) = true) from by simp [rawInt])]
  refine wpAny_bind (wpAny_setField hT dT (Array.getElem?_eq_some_iff.mp h3).1 ?_)
  have oth : ∀ b, b ≠ T → (s.heap.update T (Obj.mapFields (·.setIfInBounds 3 Value.none))).get? b = s.heap.get? b := fun b nb => Heap.get?_update_other _ _ (Ne.symm nb)
  have noT : ∀ b o, s.heap.get? b = some o → (∀ vs, o.data ≠ .fields vs) → b ≠ T := fun b o q nf z => by
    rw [z, hT] at q
    cases q
    exact nf ts dT
  refine exc_entry (s := { s with heap := s.heap.update T (Obj.mapFields (·.setIfInBounds 3 Value.none)) }) hfr hf (fun b o q => (oth b fun z => by rw [z, nT] at q; cases q).trans (st b o q)) new
    (fr.of_keeps fun b o q nf => ⟨o, (oth b (noT b o q nf)).trans q, rfl⟩) ((oth e (Ne.symm Te)).trans he) fun h' X' U => h h' X' fun b o q nf => U b o ((oth b (noT b o q nf)).trans q) nf
theorem flight_none (X : Exc B outer e cls fl s.heap) (h : ∀ h', Exc B outer e cls .none h' → s.heap.UpToSlots h' → Q () { s with heap := h' }) : wpAny M A (setFlight (.ref e) none) Q E s := by
  obtain ⟨st, new, fr, b0, T, oT, ts, he, nT, Te, hT, dT, h3⟩ := X
  have h3s : 3 < ts.size := (Array.getElem?_eq_some_iff.mp h3).1
  unfold setFlight
  refine wpAny_bind (wpAny_field (i := 1) (x := .ref T) he rfl rfl ?_)
  rw [if_pos (show (Value.ref T != Value.none) = true from by simp)]
  refine wpAny_setField hT dT h3s ?_
  have oth : ∀ b, b ≠ T → (s.heap.update T (Obj.mapFields (·.setIfInBounds 3 ((none : Option Addr).elim Value.none fun f => rawInt f)))).get? b = s.heap.get? b := fun b nb => Heap.get?_update_other _ _ (Ne.symm nb)
  have noT : ∀ b o, s.heap.get? b = some o → (∀ vs, o.data ≠ .fields vs) → b ≠ T := fun b o q nf z => by
    rw [z, hT] at q
    cases q
    exact nf ts dT
  refine h _ ⟨fun b o q => (oth b fun z => by rw [z, nT] at q; cases q).trans (st b o q), new, fr.of_keeps fun b o q nf => ⟨o, (oth b (noT b o q nf)).trans q, rfl⟩, b0, T, _, _, (oth e (Ne.symm Te)).trans he, nT, Te,
    Heap.get?_update_self _ hT (Obj.isFreed_of_fields (Obj.data_mapFields dT _)), Obj.data_mapFields dT _, by simp [h3s]⟩ fun b o q nf => ⟨o.slots, (oth b (noT b o q nf)).trans q⟩
theorem Exc.cut (X : Exc B (env :: outer) e cls fl s.heap) : Exc B outer e cls fl s.heap := ⟨X.stays, X.new, X.frames.2.2, X.rcd⟩
theorem leave_made (hfr : A.frames = some (env :: outer)) (hf : env.frame = some L) (st : B.StaysIn s.heap) (new : B.get? e = none) (fr : s.heap.FunFrames B (env :: outer)) (he : s.heap.get? e = some (excRec cls a0 .none))
    (h : ∀ h', Exc B outer e cls .none h' → s.heap.UpToSlots h' → Q () { s with heap := h' }) : wpAny M A (leaving env (.ref e)) Q E s := by
  unfold leaving
  refine wpAny_bind (note_made hfr hf st new fr he fun h1 X1 U1 => ?_)
  exact flight_none (s := { s with heap := h1 }) X1 fun h2 X2 U2 => h h2 (Exc.cut (s := { s with heap := h2 }) X2) (U1.trans U2)
end
end L2
set_option Elab.async false
set_option linter.all false
set_option maxRecDepth 100000
set_option maxHeartbeats 4000000
namespace L2
open PySem
section
variable {prog : Program} {w : World} {A : Around} {E : Value → Shared → Prop} {s₁ : Shared}
end
end L2
set_option Elab.async false
set_option linter.all false
set_option maxRecDepth 100000
set_option maxHeartbeats 4000000
namespace L2
open PySem PySem.Spec PyProof.Rows
theorem ObjOk.is {P : Program} {w : World} {H : Hp} {h : Heap} {a : Addr} {o : HO} (x : ObjOk P w H h a o) : ∃ ob, h.get? a = some ob := by
  cases o with
  | lst xs => obtain ⟨_, _, _, _, e⟩ := x; exact ⟨_, e⟩
  | tup xs => obtain ⟨_, _, _, _, e, _⟩ := x; exact ⟨_, e⟩
  | dK kvs => obtain ⟨_, _, _, _, _, _, _, e, _⟩ := x; exact ⟨_, e⟩
  | dT kvs => obtain ⟨_, _, _, _, _, _, _, e, _⟩ := x; exact ⟨_, e⟩
  | set S n => obtain ⟨_, _, _, _, e, _⟩ := x; exact ⟨_, e⟩
  | ins C dx fs => obtain ⟨_, _, _, e, _⟩ := x; exact ⟨_, e⟩
  | own y => exact x
  | xd fs => obtain ⟨_, ⟨_, _, _, e, _⟩, _⟩ := x; exact ⟨_, e⟩
  | rng lo hi => obtain ⟨_, _, _, e⟩ := x; exact ⟨_, e⟩
  | frz ob u => exact ⟨_, x.1⟩
  | tbl ps => exact ⟨_, x⟩
  | met f y => exact ⟨_, x⟩
  | ext φ => exact x.2.1
structure Flew (P : Program) (w : World) (outer : List Env) (H : Hp) (s : Shared) (a C : Addr) (B : Heap) (H' : Hp) (s' : Shared) : Prop where
  os : s'.os = s.os
  bare : AllBare s'.gens
  un : Un (frs outer) [] H H' s.heap s'.heap
  hok : HOk P w H' B
  inB : ∀ b o, s.heap.get? b = some o → H b = none → b ∉ frs outer → B.get? b = some o
  thB : ∀ b o, s.heap.get? b = some o → b ∉ frs outer → ∃ o', B.get? b = some o'
  exc : Exc B outer a (.ref C) .none s'.heap
def CX1 (P : Program) (w : World) : CXT := fun outer H s E e s' => ∃ (a C : Addr) (B : Heap) (H' : Hp), e = .ref a ∧ Flew P w outer H s a C B H' s' ∧ E (.ref C) none H'
theorem Flew.free {P : Program} {w : World} {outer : List Env} {H H' : Hp} {s s' : Shared} {a C : Addr} {B : Heap} (F : Flew P w outer H s a C B H' s') : H' a = none := by
  cases q : H' a with
  | none => rfl
  | some o =>
    obtain ⟨ob, e⟩ := (F.hok a o q).is
    rw [F.exc.new] at e
    cases e
theorem un_on {l : List Env} {H H' : Hp} {h h1 h2 B : Heap} (un : Un (frs l) [] H H' h h1) (inB : ∀ b o, h.get? b = some o → H b = none → b ∉ frs l → B.get? b = some o) (thB : ∀ b o, h.get? b = some o → b ∉ frs l → ∃ o', B.get? b = some o')
    (fr : h1.FunFrames B l) (st : B.StaysIn h2) (up : h1.UpToSlots h2) : Un (frs l) [] H H' h h2 where
  keep := fun b o e n nf _ => st b o (inB b o e n nf)
  slot := fun b o e n hf hx => by
    obtain ⟨sl, q⟩ := un.slot b o e n hf hx
    obtain ⟨_, o', ho', nf⟩ := fr.mem hf
    rw [q] at ho'
    cases ho'
    obtain ⟨sl', q'⟩ := up b _ q nf
    exact ⟨sl', q'⟩
  free := un.free
  there := fun b o e hx => by
    by_cases hf : b ∈ frs l
    · obtain ⟨_, o', ho', nf⟩ := fr.mem hf
      obtain ⟨sl, q⟩ := up b o' ho' nf
      exact ⟨_, q⟩
    · obtain ⟨o', q⟩ := thB b o e hf
      exact ⟨o', st b o' q⟩
  tups := un.tups
  frzs := un.frzs
  tbls := un.tbls
section
variable {X : Cx} {pins : List (Addr × Obj)} {σ : St} {H H' : Hp} {s s' : Shared} {a C : Addr} {B : Heap}
theorem Inv.noframe (I : Inv X pins σ H s) {b : Addr} {o : Obj} (e : X.s₀.heap.get? b = some o) (nf : b ∉ X.fs) : b ∉ frs X.stack := fun z => by
  rcases List.mem_cons.mp (I.stkSub b z) with q | q
  · exact absurd (Nat.lt_of_lt_of_le (Heap.lt_size e) I.ok.above) (by rw [q]; exact Nat.lt_irrefl _)
  · exact nf q
theorem flew_out (I : Inv X pins σ H s) (hex : X.ex = []) (un : Un (frs X.stack) [] H H' s.heap s'.heap) (os : s'.os = s.os) (bare : AllBare s'.gens) (hok : HOk X.prog X.w H' B)
    (inB : ∀ b o, s.heap.get? b = some o → H b = none → b ∉ frs X.stack → B.get? b = some o) (thB : ∀ b o, s.heap.get? b = some o → b ∉ frs X.stack → ∃ o', B.get? b = some o') (x : Exc B X.outer a (.ref C) .none s'.heap) :
    Flew X.prog X.w X.outer X.H₀ X.s₀ a C B H' s' := by
  have J : Inv X pins σ H' s' := I.call' os un (hok.kept x.stays) bare (fun _ z => nomatch z)
  have nx : ∀ b, b ∉ X.ex := fun b z => by rw [hex] at z; exact nomatch z
  refine ⟨J.os, J.bare, by have := J.base; rw [hex] at this; exact this, hok, fun b o e n nf => ?_, fun b o e nf => ?_, x⟩
  · exact inB b o (I.base.keep b o e n nf (nx b)) (I.base.free b o e n (nx b)) (I.noframe e nf)
  · obtain ⟨o', e'⟩ := I.base.there b o e (nx b)
    exact thB b o' e' (I.noframe e nf)
end
section
variable {P : Program} {w : World} {K : PySem.W.Frag} {mg : Str → Option Value} {base : Heap} {N : List Str} {qual : Str} {scope : Scope} {f : Addr} {cd : Value} {A : Around} {outer : List Env} {s₀ : Shared} {H₀ : Hp} {E : XK}
def Raises (X : Cx) (E : XK) : Prop := ∀ (pins : List (Addr × Obj)) (σ : St) (H : Hp) (s : Shared) (h' : Heap) (a C : Addr) (vs : List Value), Inv X pins σ H s → Heap.MadeExcOf s.heap h' a (.ref C) vs → E (.ref C) none H → X.xe (.ref a) { s with heap := h' }
theorem raise1 : Raises (cxOf (CX1 P w) P w K mg base N qual scope f cd A outer s₀ H₀ E) E := by
  intro pins σ H s h' a C vs I mk q
  obtain ⟨t, he, _, _⟩ := mk.there
  have st : (PySem.W.hideAll s.heap (frs (envOfC qual scope s₀.heap.objs.size f cd :: outer))).StaysIn h' := fun b o e => mk.keeps b o (PySem.W.of_hideAll _ e)
  have new : (PySem.W.hideAll s.heap (frs (envOfC qual scope s₀.heap.objs.size f cd :: outer))).get? a = none := by
    cases e : (PySem.W.hideAll s.heap (frs (envOfC qual scope s₀.heap.objs.size f cd :: outer))).get? a with
    | none => rfl
    | some o =>
      have := PySem.W.of_hideAll _ e
      rw [mk.new] at this
      cases this
  have fr0 : s.heap.FunFrames (PySem.W.hideAll s.heap (frs (envOfC qual scope s₀.heap.objs.size f cd :: outer))) (envOfC qual scope s₀.heap.objs.size f cd :: outer) :=
    PySem.W.funFrames_hide I.stack fun env he b hb => List.mem_filterMap.mpr ⟨env, he, hb⟩
  have fr : h'.FunFrames (PySem.W.hideAll s.heap (frs (envOfC qual scope s₀.heap.objs.size f cd :: outer))) (envOfC qual scope s₀.heap.objs.size f cd :: outer) := fr0.of_keeps fun b o e _ => ⟨o, mk.keeps b o e, rfl⟩
  refine leave_made (s := { s with heap := h' }) (env := envOfC qual scope s₀.heap.objs.size f cd) (outer := outer) I.ok.frames rfl st new fr he fun h'' x u => ?_
  have inB : ∀ b o, s.heap.get? b = some o → b ∉ frs (envOfC qual scope s₀.heap.objs.size f cd :: outer) → (PySem.W.hideAll s.heap (frs (envOfC qual scope s₀.heap.objs.size f cd :: outer))).get? b = some o := fun b o e nf => PySem.W.hideAll_get _ e nf
  refine ⟨a, C, _, H, rfl, flew_out (s' := { s with heap := h'' }) I rfl (un_on (Un.kept mk.keeps) (fun b o e _ nf => inB b o e nf) (fun b o e nf => ⟨o, inB b o e nf⟩) fr x.stays u) rfl I.bare (fun b o e => ?_) (fun b o e _ nf => inB b o e nf) (fun b o e nf => ⟨o, inB b o e nf⟩) x, q⟩
  refine (I.hok b o e).stay (fun c v hc r => inB c v r fun z => ?_) (fun _ r => r) fun _ _ r => r
  have nc := I.stkFree c z
  rcases hc with rfl | hc
  · rw [e] at nc; cases nc
  · rw [hc] at nc; cases nc
end
def VEB : List Value := [.type "ValueError", .type "Exception", .type "BaseException", .type "object"]
structure ErrC (K : PySem.W.Frag) (mg : Str → Option Value) (x : Str) (C : Addr) : Prop where
  at' : mg x = some (.ref C)
  ok : PySem.W.excIn K C VEB "ValueError.__new__" = true
theorem errObj {K : PySem.W.Frag} {h : Heap} {C : Addr} {bmB : List Value} {newId : String} (X : K.In h) (q : PySem.W.excIn K C bmB newId = true) :
    ∃ bm N nm qn bs hd sn sub ab col dd k0 k1 k2 k3 k5 mN, h.get? C = some (excClassObj nm qn C N bs bm hd sn sub ab col dd k0 k1 k2 k3 k5 newId) ∧ h.Ns N mN ∧ mN "__init__" = none ∧ OwnTail h bmB bm := by
  unfold PySem.W.excIn at q
  split at q
  · rename_i dd cl sl look
    split at q
    · rename_i C1 bm k0 k1 k2 k3 n k5 hmro hsl
      simp only [Bool.and_eq_true, beq_iff_eq, Bool.not_eq_true'] at q
      obtain ⟨⟨⟨⟨⟨rfl, rfl⟩, nodel⟩, tl⟩, nsok⟩, noinit⟩ := q
      obtain ⟨c1, c2, c3, c4, c5, c6, c7, c8, c9, c10, c11⟩ := cl
      dsimp only at hmro nodel nsok noinit
      subst hmro nodel
      have e : sl = #[k0, k1, k2, k3, some (.builtin n), k5] := by
        obtain ⟨l⟩ := sl
        simp only at hsl
        rw [hsl]
      subst e
      exact ⟨bm, _, _, _, _, _, _, _, _, _, dd, k0, k1, k2, k3, k5, _, X _ _ look, .of_isNs (PySem.W.isNs_of_in X nsok), PySem.W.nsMap_none_of_in X nsok noinit, PySem.W.tail_of_in X tl⟩
    · cases q
  · cases q
section
variable {X : Cx} {E : XK} {x : Str} {C : Addr} {e : Expr} {es : List Expr} {ta : TA} {np cpos pos : Pos}
def tRaise (E : XK) (C : Addr) (ta : TA) : TS := fun _ σ H => ta σ H fun vs H1 => vs.length ≤ sizeLine ∧ E (.ref C) none H1
theorem ps_raise (hE : Raises X E) (hc : X.calm = true) (R : ErrC X.K X.mg x C) (hg : Gl X x) (ha : PA X (e :: es) ta)
    (hd : (x == ("__debug__" : Str)) = false := by decide) (he : starEach (e :: es) X.env = (false, eval e X.env) :: starEach es X.env := by rfl) (hpl : (backTo cpos (starEach es X.env)).any (·.1) = false := by rfl) :
    PS X (.Raise (some (.Call (.Name x np) (e :: es) [] cpos)) none pos) (tRaise E C ta) := by
  intro pins s σ H D I h
  obtain ⟨bm, N, nm, qn, bs, hd', sn, sub, ab, col, dd, k0, k1, k2, k3, k5, mN, hC, hN, hni, T⟩ := errObj I.mod.kin R.ok
  refine wpAny_Raise_call_subT (C := C) (nm := nm) (q := qn) (N := N) (bs := bs) (bm := bm) (hdct := hd') (sn := sn) (sub := sub) (ab := ab) (col := col) (dd := dd) (k0 := k0) (k1 := k1) (k2 := k2) (k3 := k3) (k5 := k5) PySem.F.excBase_ValueError (mN := mN)
    (T.hasType PySem.F.excBase_ValueError.hasBase) (I.ok.hd hc) (by rw [he]; exact (show (false || (backTo cpos (starEach es X.env)).any (·.1)) = false from by rw [hpl]; rfl)) hni (ld_glob I hg R.at' ⟨rfl, ?_⟩ hd)
  have h1 := ha cpos pins s σ H _ I h
  rw [he] at h1 ⊢
  refine Calls.evalArgs_plain (wpAny_mono h1 (fun vs s2 q2 => ?_) fun _ _ y => y)
  obtain ⟨xs, H2, I2, r2, len, q⟩ := q2
  exact ⟨rfl, by rw [← r2.length]; exact len, I2.bk _ _ hC, hN.keeps I2.bk, T.keeps I2.bk, fun h' z mk => hE pins σ H2 s2 h' z C _ I2 mk q⟩
end
structure CalleeX (P : Program) (w : World) (K : PySem.W.Frag) (mg : Str → Option Value) (base : Heap) (x : Str) (k : Nat) (ps : List Str) (sp : Sp) : Prop where
  ex : ∃ f fd, mg x = some (.ref f) ∧ PySem.W.keepIn K (.ref f) = true ∧ Binds K fd ps [] ∧ FnOk P w K mg base (CX1 P w) k f fd ps sp
theorem pe_callX {X : Cx} {E : XK} {x : Str} {k n : Nat} {ps : List Str} {sp : Sp} {e : Expr} {es : List Expr} {t : TA} {p pos : Pos} (C : CalleeX X.prog X.w X.K X.mg X.base x k ps sp) (hp : Passes (CX1 X.prog X.w) X E) (hr : Room n X.A) (hk : k ≤ n) (hg : Gl X x) (ha : PA X (e :: es) t)
    (hdb : (x == ("__debug__" : Str)) = false := by decide) (he : starEach (e :: es) X.env = (false, eval e X.env) :: starEach es X.env := by rfl) (hpl : (backTo pos (starEach es X.env)).any (·.1) = false := by rfl) :
    PE X (.Call (.Name x p) (e :: es) [] pos) (tCall sp [] E t) := by
  obtain ⟨f, fd, hm, hkp, hb, F⟩ := C.ex
  exact pe_call (F.mono hk) hr hg hm hkp hb .nil hp ha hdb he hpl
theorem HasDef.okX {P : Program} {w : World} {K : PySem.W.Frag} {mg : Str → Option Value} {base : Heap} {x : Str} {st : Stmt} {N ps : List Str} {n : Nat} {sp : Sp} (D : HasDef K mg x st) (S : FnScope N ps (defScope st))
    (hb : ∀ (kV doc pm : Value) (an : Option Addr) (cdv ct : Value) (us : List Value), us.length = ps.length → bindArgs (PySem.W.fnOf x x (defArgs st) (defBody st) (defScope st) .none kV doc pm an cdv ct) ⟨us, []⟩ = pure (ps.zip us))
    (len : ∀ vs H Q E, sp vs H Q E → vs.length = ps.length)
    (hbody : ∀ (f : Addr) (cdv : Value) (A : Around) (outer : List Env) (s : Shared) (H : Hp) (vs : List V) (Q : VK) (E : XK), Room n (A.deeper (envOfC x (defScope st) s.heap.objs.size f cdv)) → sp vs H Q E →
      ∃ t, PSs (cxOf (CX1 P w) P w K mg base N x (defScope st) f cdv A outer s H E) (defBody st) t ∧ t { nx := fun _ H' => Q .non H', rt := Q } (start N vs) H) : CalleeX P w K mg base x (n + 1) ps sp := by
  obtain ⟨f, fd, F, hm⟩ := D.ex
  refine ⟨f, fd, hm, F.kp, F.binds hb, ?_⟩
  obtain ⟨oc, od, kV, doc, pm, an, cdv, ct, osl, rfl, lk, hcd⟩ := F.ex
  exact fn_of lk hcd S len fun A outer s H vs Q E hr h => hbody f cdv A outer s H vs Q E hr h
theorem CalleeX.calm {P : Program} {w : World} {K : PySem.W.Frag} {mg : Str → Option Value} {base : Heap} {x : Str} {k : Nat} {ps : List Str} {sp : Sp} (C : CalleeX P w K mg base x k ps sp) : Callee P w K mg base x k ps (fun vs H Q _ => sp vs H Q E0) := by
  obtain ⟨f, fd, hm, hkp, hb, F⟩ := C.ex
  refine ⟨f, fd, hm, hkp, hb, fun vs H Q E h => F.len vs H Q E0 h, fun A outer s H args us vs Q E hr e0 bt r h => codeAny_mono (F.run A outer s H args us vs Q E0 hr e0 bt r h) fun res s' q => ?_⟩
  cases res with
  | ok fl => cases fl <;> exact q
  | error e =>
    obtain ⟨_, _, _, _, _, _, z⟩ := q
    exact z.elim
theorem CalleeX.imp {P : Program} {w : World} {K : PySem.W.Frag} {mg : Str → Option Value} {base : Heap} {x : Str} {k : Nat} {ps : List Str} {sp sp' : Sp} (C : CalleeX P w K mg base x k ps sp) (h : ∀ vs H Q E, sp' vs H Q E → sp vs H Q E) : CalleeX P w K mg base x k ps sp' := by
  obtain ⟨f, fd, hm, hkp, hb, F⟩ := C.ex
  exact ⟨f, fd, hm, hkp, hb, F.imp h⟩
theorem Callee.x {P : Program} {w : World} {K : PySem.W.Frag} {mg : Str → Option Value} {base : Heap} {x : Str} {k : Nat} {ps : List Str} {sp : Sp} (C : Callee P w K mg base x k ps sp) : CalleeX P w K mg base x k ps sp := by
  obtain ⟨f, fd, hm, hkp, hb, F⟩ := C.ex
  refine ⟨f, fd, hm, hkp, hb, F.len, fun A outer s H args us vs Q E hr e0 bt r h => codeAny_mono (F.run A outer s H args us vs Q E hr e0 bt r h) fun res s' q => ?_⟩
  cases res with
  | ok fl => cases fl <;> exact q
  | error e => exact False.elim q
end L2
set_option Elab.async false
set_option linter.all false
set_option maxRecDepth 100000
set_option maxHeartbeats 4000000
namespace L2
open PySem PySem.Spec PyProof.Rows
def excO (a C : Addr) (a0 x1 : Value) : HO := .frz (excRec (.ref C) a0 x1) (.ext fun h => ∃ a0 x1, h.get? a = some (excRec (.ref C) a0 x1))
abbrev bCx (X : Cx) (pins : List (Addr × Obj)) (xe : Value → Shared → Prop) : Cx := { X with pn := X.pn ++ pins, xe := xe }
abbrev hCx (X : Cx) (a : Addr) : Cx := { X with A := X.A.mark (some (.ref a)), calm := false, xe := fun _ _ => False }
section
variable {X : Cx} {pins pl : List (Addr × Obj)} {σ : St} {H H' : Hp} {s s' : Shared} {a C : Addr} {B : Heap} {xe : Value → Shared → Prop}
theorem Inv.toB (I : Inv X pins σ H s) : Inv (bCx X pins xe) [] σ H s :=
  ⟨⟨I.ok.mod, I.ok.kind, I.ok.glob, I.ok.blt, I.ok.above, I.ok.inj, I.ok.has, I.ok.cab, I.ok.hd, I.ok.frames, I.ok.stk, I.ok.exf, I.ok.bs, I.ok.bsz, I.ok.noex, I.ok.exfs, I.ok.funs, I.ok.frf⟩, I.os, I.bare, I.base, I.loc, I.cell, I.free, I.freeC,
    fun p hp => I.pin p (by simpa using hp), I.hok, I.len⟩
theorem Inv.ofB (I : Inv (bCx X pins xe) pl σ H s) : Inv X pins σ H s :=
  ⟨⟨I.ok.mod, I.ok.kind, I.ok.glob, I.ok.blt, I.ok.above, I.ok.inj, I.ok.has, I.ok.cab, I.ok.hd, I.ok.frames, I.ok.stk, I.ok.exf, I.ok.bs, I.ok.bsz, I.ok.noex, I.ok.exfs, I.ok.funs, I.ok.frf⟩, I.os, I.bare, I.base, I.loc, I.cell, I.free, I.freeC,
    fun p hp => I.pin p (List.mem_append_left _ hp), I.hok, I.len⟩
theorem Inv.wishB {xe' : Value → Shared → Prop} (I : Inv (bCx X pins xe) pl σ H s) : Inv (bCx X pins xe') pl σ H s :=
  ⟨⟨I.ok.mod, I.ok.kind, I.ok.glob, I.ok.blt, I.ok.above, I.ok.inj, I.ok.has, I.ok.cab, I.ok.hd, I.ok.frames, I.ok.stk, I.ok.exf, I.ok.bs, I.ok.bsz, I.ok.noex, I.ok.exfs, I.ok.funs, I.ok.frf⟩, I.os, I.bare, I.base, I.loc, I.cell, I.free, I.freeC,
    I.pin, I.hok, I.len⟩
theorem Inv.toH (I : Inv X pins σ H s) (a : Addr) : Inv (hCx X a) pins σ H s :=
  ⟨⟨I.ok.mod, I.ok.kind, I.ok.glob, I.ok.blt, I.ok.above, I.ok.inj, I.ok.has, I.ok.cab, (fun z => nomatch z), I.ok.frames, I.ok.stk, I.ok.exf, I.ok.bs, I.ok.bsz, I.ok.noex, I.ok.exfs, I.ok.funs, I.ok.frf⟩, I.os, I.bare, I.base, I.loc, I.cell, I.free, I.freeC,
    I.pin, I.hok, I.len⟩
theorem Inv.ofH (hd : X.calm = true → X.A.handled = none) (I : Inv (hCx X a) pins σ H s) : Inv X pins σ H s :=
  ⟨⟨I.ok.mod, I.ok.kind, I.ok.glob, I.ok.blt, I.ok.above, I.ok.inj, I.ok.has, I.ok.cab, hd, I.ok.frames, I.ok.stk, I.ok.exf, I.ok.bs, I.ok.bsz, I.ok.noex, I.ok.exfs, I.ok.funs, I.ok.frf⟩, I.os, I.bare, I.base, I.loc, I.cell, I.free, I.freeC,
    I.pin, I.hok, I.len⟩
theorem SP.ofB {D : Ends} {f : Flow} (h : SP (bCx X pins xe) [] D f s') : SP X pins D f s' := by
  cases f with
  | next => obtain ⟨σ', H', I, q⟩ := h; exact ⟨σ', H', I.ofB, q⟩
  | brk => obtain ⟨σ', H', I, q⟩ := h; exact ⟨σ', H', I.ofB, q⟩
  | cont => obtain ⟨σ', H', I, q⟩ := h; exact ⟨σ', H', I.ofB, q⟩
  | ret u => obtain ⟨v, σ', H', I, r, q⟩ := h; exact ⟨v, σ', H', I.ofB, r, q⟩
theorem Flew.inv {h5 : Heap} (I : Inv X pins σ H s) (F : Flew X.prog X.w X.stack H s a C B H' s') (x : Exc B X.stack a (.ref C) .none h5) (up : s'.heap.UpToSlots h5) :
    ∃ a0 x1, Inv X pins σ (upd H' a (excO a C a0 x1)) { s' with heap := h5 } := by
  obtain ⟨a0, T, oT, ts, he, _, _, _, _, _⟩ := x.rcd
  refine ⟨a0, .ref T, ?_⟩
  have fr := F.free
  have un := un_on F.un F.inB F.thB F.exc.frames x.stays up
  have new : ∀ o, s.heap.get? a ≠ some o := fun o e => by
    by_cases hf : a ∈ frs X.stack
    · obtain ⟨_, o', ho', nf⟩ := x.frames.mem hf
      rw [he] at ho'
      cases ho'
      exact nf _ rfl
    · obtain ⟨o', q⟩ := F.thB a o e hf
      rw [x.new] at q
      cases q
  have ne : ∀ b u, H' b = some u → b ≠ a := fun b u e z => by rw [z, fr] at e; cases e
  refine I.call' (ch := []) (s' := { s' with heap := h5 }) F.os ⟨un.keep, un.slot, fun b o e n hx => ?_, un.there, fun b xs e => ?_, fun b o u e => ?_, fun b ps e => ?_⟩ (fun b u e => ?_) F.bare (fun _ z => nomatch z)
  · have : b ≠ a := fun z => new o (z ▸ e)
    rw [upd_ne this]
    exact un.free b o e n hx
  · have q := un.tups b xs e
    rw [upd_ne (ne b _ q)]
    exact q
  · have q := un.frzs b o u e
    rw [upd_ne (ne b _ q)]
    exact q
  · obtain ⟨more, q⟩ := un.tbls b ps e
    exact ⟨more, by rw [upd_ne (ne b _ q)]; exact q⟩
  · by_cases hb : b = a
    · subst hb
      rw [upd_same] at e
      cases e
      exact ⟨he, ⟨_, _, he⟩, ⟨_, he⟩, fun h1 h2 ⟨y0, y1, q⟩ k => ⟨y0, y1, k _ q⟩⟩
    · rw [upd_ne hb] at e
      refine (F.hok b u e).stay (fun c v _ q => x.stays c v q) (fun c q => ?_) fun c xs q => ?_
      · rw [upd_ne (ne c _ q)]; exact q
      · rw [upd_ne (ne c _ q)]; exact q
theorem name_goes {M : Model} {A : Around} {E : Value → Shared → Prop} {i : Nat} {n : Str} {pos : Pos} {Q : Unit → Shared → Prop} (I : Inv X pins σ H s) (hN : X.N.Nodup) (hi : X.N[i]? = some n) (hl : X.env.scope.names.lookup n = some .local)
    (k : ∀ s', Inv X pins (σ.set i none) H s' → Q () s') : wpAny M A (do bindName X.env n .none; unbindBehindTheSuite X.env n pos) Q E s := by
  obtain ⟨m, hn, hm⟩ := id I.loc
  have hcls : (X.env.scope.kind == .class || (X.env.scope.kind == .module && X.env.locals != X.env.globals)) = false := by rw [I.ok.kind]; rfl
  refine wpAny_nameGoes_keeps hl hn hcls fun h' v hn' hs => k _ ?_
  obtain ⟨oL, _, _, hoL, _⟩ := id hn
  have low : ∀ b o, X.s₀.heap.get? b = some o → b ≠ X.env.locals := fun b o e => Nat.ne_of_lt (Nat.lt_of_lt_of_le (Heap.lt_size e) I.ok.above)
  refine ⟨I.ok, I.os, I.bare, ⟨fun b o e n hb hx => ?_, fun b o e n hb hx => ?_, I.base.free, fun b o e hx => ?_, I.base.tups, I.base.frzs, I.base.tbls⟩, ⟨_, hn', fun j y v' e1 e2 e3 => ?_⟩, fun y c e => ?_, I.free, I.freeC, fun p hp => ?_, fun b ob e => ?_, by simpa using I.len⟩
  · exact (hs.2 b (low b o e)).trans (I.base.keep b o e n hb hx)
  · obtain ⟨sl, e1⟩ := I.base.slot b o e n hb hx
    exact ⟨sl, (hs.2 b (low b o e)).trans e1⟩
  · obtain ⟨o', e1⟩ := I.base.there b o e hx
    exact ⟨o', (hs.2 b (low b o e)).trans e1⟩
  · by_cases hj : j = i
    · subst hj
      have : j < σ.length := by
        rcases Nat.lt_or_ge j σ.length with z | z
        · exact z
        · rw [List.getElem?_eq_none (by simpa using z)] at e2; cases e2
      rw [List.getElem?_set_self this] at e2
      cases e2
    · rw [List.getElem?_set_ne (Ne.symm hj)] at e2
      obtain ⟨u, r, q⟩ := hm j y v' e1 e2 e3
      refine ⟨u, r, ?_⟩
      rcases q with ⟨q, e⟩ | ⟨q, c, e, z⟩
      · have : y ≠ n := fun z => hj (nodup_ix hN e1 (z ▸ hi))
        exact .inl ⟨q, by simp [this, e]⟩
      · exact .inr ⟨q, c, e, z.sameBut hs (I.cne y c e)⟩
  · obtain ⟨w', z⟩ := I.cell y c e
    exact ⟨w', z.sameBut hs (I.cne y c e)⟩
  · obtain ⟨e, n, nl, nf, d⟩ := I.pin p hp
    exact ⟨(hs.2 p.1 nl).trans e, n, nl, nf, d⟩
  · refine (I.hok b ob e).stay (fun c w' hc q => (hs.2 c ?_).trans q) (fun _ q => q) fun _ _ q => q
    intro z
    have f := I.free
    rw [← z] at f
    rcases hc with rfl | hc
    · rw [f] at e; cases e
    · rw [f] at hc; cases hc
end
def endsH (D : Ends) (i : Nat) : Ends := { nx := fun σ' H' => D.nx (σ'.set i none) H', rt := D.rt, bk := fun σ' H' => D.bk (σ'.set i none) H', ct := fun σ' H' => D.ct (σ'.set i none) H' }
def xTry (K : PySem.W.Frag) (C0 : Addr) (n i : Nat) (ts : Addr → TS) (D : Ends) : XK := fun cls _ H' => ∃ C, cls = .ref C ∧ PySem.W.exmOne K (.ref C) (.ref C0) = some true ∧
  ∀ a a0 x1, H' a = none → ts a (endsH D i) ((List.replicate n none).set i (some (.ref a))) (upd H' a (excO a C a0 x1))
def tTry (K : PySem.W.Frag) (C0 : Addr) (n i : Nat) (tb : XK → TS) (ts : Addr → TS) : TS := fun D σ H => tb (xTry K C0 n i ts D) D σ H
theorem ps_try {X : Cx} {x n : Str} {C0 : Addr} {i : Nat} {body suite : List Stmt} {b0 : Stmt} {np hpos pos : Pos} {tb : XK → TS} {ts : Addr → TS} (hst : X.stack = X.env :: X.outer) (hfr : X.env.frame = some X.env.locals) (hN : X.N.Nodup) (hi : X.N[i]? = some n)
    (hl : X.env.scope.names.lookup n = some .local) (hx : X.mg x = some (.ref C0)) (hg : Gl X x) (hb : ∀ (pn : List (Addr × Obj)) (xe : Value → Shared → Prop) (E : XK), Passes (CX1 X.prog X.w) { X with pn := pn, xe := xe } E → PSs { X with pn := pn, xe := xe } body (tb E))
    (hs : ∀ a, PSs (hCx X a) (b0 :: suite) (ts a)) (hd : (x == ("__debug__" : Str)) = false := by decide) :
    PS X (.Try body [.ExceptHandler (some (.Name x np)) (some n) (b0 :: suite) hpos] [] [] pos) (tTry X.K C0 X.N.length i tb ts) := by
  intro pins s σ H D I h
  refine wpAny_Try_except ?_
  refine wpAny_mono (hb (X.pn ++ pins) (fun e s' => ∃ pl σ1 H1 s1, Inv (bCx X pins fun _ _ => False) pl σ1 H1 s1 ∧ CX1 X.prog X.w X.stack H1 s1 (xTry X.K C0 X.N.length i ts D) e s') _ (fun pl σ1 H1 s1 e s' I1 q => ⟨pl, σ1, H1, s1, I1.wishB, q⟩) [] s σ H D I.toB h) (fun f s1 q => ?_) fun e s1 q => ?_
  · have q := SP.ofB q
    cases f with
    | next => exact wpAny_execs_nil q
    | brk => exact q
    | cont => exact q
    | ret u => exact q
  · obtain ⟨pl, σ1, H1, s0, I0, a, C, B, H', rfl, F, C', hC, hm, q⟩ := q
    cases hC
    have J0 : Inv X pins σ1 H1 s0 := I0.ofB
    have fx := F.exc
    rw [hst] at fx
    refine note_come (s := s1) (by rw [J0.ok.frames, hst]) hfr fx fun h4 x4 u4 => ?_
    refine flight_none (s := { s1 with heap := h4 }) x4 fun h5 x5 u5 => ?_
    obtain ⟨_, _, J5⟩ := F.inv (h5 := h5) J0 (by rw [hst]; exact x5) (u4.trans u5)
    have k5 := J5.kIn
    have LT : PySem.W.Looks (model X.prog X.w) h5 (typeOf (.ref a)) (.ref C) := by
      obtain ⟨a0, T, _, _, he, _⟩ := x5.rcd
      have : PySem.W.InstAt h5 a (excRec (.ref C) a0 (.ref T)) C none := ⟨he, rfl, rfl, trivial⟩
      exact this.type
    refine wpAny_handleBy_cons (codeAny_handlers_test (ld_glob (J5.toH a) hg hx ?_ hd)) (by intro z; cases z)
    refine PySem.W.exm_one k5 LT hm _ _ _ _ (fun _ _ z => z) ?_
    refine codeAny_handlers_suite_as ?_
    refine flight_none (s := { s1 with heap := h5 }) x5 fun h6 x6 u6 => ?_
    obtain ⟨z0, z1, J6⟩ := F.inv (h5 := h6) J0 (by rw [hst]; exact x6) ((u4.trans u5).trans u6)
    have J6 := J6.weak (σ' := List.replicate X.N.length none) (by rw [List.length_replicate]; exact J6.len.symm) (fun j v z => by
      rw [List.getElem?_replicate] at z
      split at z <;> cases z)
    refine store_ok (X := hCx X a) (i := i) (J6.toH a) hN hi (.inl hl) (v := .ref a) rfl (fun s7 J7 => ?_) (.inr hl)
    refine wpAny_mono (hs a pins s7 _ _ (endsH D i) J7 (q a z0 z1 F.free)) (fun f s8 q8 => ?_) fun _ _ z => z.elim
    have back : ∀ {σ8 : St} {H8 : Hp}, Inv (hCx X a) pins σ8 H8 s8 → Inv X pins σ8 H8 s8 := fun J => J.ofH J0.ok.hd
    cases f with
    | next =>
      obtain ⟨σ8, H8, J8, z⟩ := q8
      exact name_goes (back J8) hN hi hl fun s9 J9 => ⟨_, _, J9, z⟩
    | brk =>
      obtain ⟨σ8, H8, J8, z⟩ := q8
      exact name_goes (back J8) hN hi hl fun s9 J9 => ⟨_, _, J9, z⟩
    | cont =>
      obtain ⟨σ8, H8, J8, z⟩ := q8
      exact name_goes (back J8) hN hi hl fun s9 J9 => ⟨_, _, J9, z⟩
    | ret u =>
      obtain ⟨v, σ8, H8, J8, r, z⟩ := q8
      exact name_goes (back J8) hN hi hl fun s9 J9 => ⟨v, _, _, J9, r, z⟩
structure ExcCls (K : PySem.W.Frag) (C : Addr) : Prop where
  ga : PySem.W.findIn K (.ref C) "__getattribute__" = some (some (.builtin "BaseException.__getattribute__"))
  gh : PySem.W.findIn K (.ref C) "__getattr__" = some none
  cls : PySem.W.hasDictIn K C = true
  ha : PySem.W.findIn K (.ref C) "__class__" = some (some (.builtin "object.__class__"))
  hn : PySem.W.specialIn K (.builtin "object.__class__") "__get__" = some (some (.builtin "getset_descriptor.__get__"))
  htk : PySem.W.takesIn K (.builtin "object.__class__") = some true
  hm : PySem.W.mroIn K C (.type "object") = some true
  hb : PySem.W.mroIn K C (.type "BaseException") = some true
section
variable {K : PySem.W.Frag} {prog : Program} {w : World} {A : Around} {E : Value → Shared → Prop} {s : Shared} {x C : Addr} {ox : Obj}
theorem exc_entry_class {tk : Tok} {Q : Fin → Shared → Prop} (Z : ExcCls K C) (X : K.In s.heap) (I : PySem.W.InstAt s.heap x ox C none) (k : Q (.done (.ret (.ref C))) s) :
    wpAny (model prog w) A (Builtin.«object.__getattribute__» ⟨[.ref x, .str "__class__" tk], []⟩) Q E s := by
  obtain ⟨h, g, d, t, os⟩ := s
  have hf : PySem.W.findObj K C none "__class__" = some (.bind (.builtin "getset_descriptor.__get__") (.builtin "object.__class__")) := by
    obtain ⟨cd, hc, _⟩ := PySem.W.any_some Z.cls
    unfold PySem.W.findObj
    rw [hc, Option.bind_some, Z.ha, Option.bind_some]
    simp [Z.hn, Z.htk]
  have L0 := I.type (M := model prog w)
  have L1 := PySem.W.looks_find (M := model prog w) X I hf
  refine wpAny_bind (wpAny_pure (wpAny_bind (wpAny_pure (wpAny_bind (L0.at (wpAny_bind (L1.at ?_)))))))
  refine wpAny_bind (wpAny_call (PySem.W.class_get (ox := ox) (od := none) X I Z.hm ?_))
  exact wpAny_pure k
theorem exc_ga {nameV : Value} {Q : Unit → Shared → Prop} {M : Model} (Z : ExcCls K C) (X : K.In s.heap) (I : PySem.W.InstAt s.heap x ox C none) (k : Q () s) : wpAny M A (checkBuiltinCall "BaseException.__getattribute__" ⟨[.ref x, nameV], []⟩) Q E s := by
  obtain ⟨h, g, d, t, os⟩ := s
  have L0 := I.type (M := M)
  have L1 := PySem.W.looks_mroIn (M := M) X Z.hb
  have LI : PySem.W.Looks M h (isInstance (.ref x) (.type "BaseException")) true := L0.andThen L1
  have k1 : builtinKind "BaseException.__getattribute__" = some .slot := by decide +kernel
  have k2 : splitId "BaseException.__getattribute__" = some ("BaseException", "__getattribute__") := by decide +kernel
  have k3 := F.args_bexc_ga (.ref x) nameV
  simp only [checkBuiltinCall, k1, k2]
  refine wpAny_bind (wpAny_bind (L0.at (L1.at ?_)))
  rw [if_neg (by decide)]
  exact wpAny_of_eq (a := ()) k3 k
theorem exc_class {Q : Option Value → Shared → Prop} (Z : ExcCls K C) (X : K.In s.heap) (I : PySem.W.InstAt s.heap x ox C none) (k : Q (some (.ref C)) { s with toks := s.toks + 1 }) : wpAny (model prog w) A (getAttr? (.ref x) "__class__") Q E s := by
  obtain ⟨h, g, d, t, os⟩ := s
  have L0 := I.type (M := model prog w)
  have L1 := PySem.W.looks_findIn (M := model prog w) X Z.ga
  have L2 := PySem.W.looks_findIn (M := model prog w) X Z.gh
  unfold getAttr? getAttrBy? getAttrBy
  refine wpAny_bind (wpAny_mkText (wpAny_bind (wpAny_attempt (wpAny_holding (wpAny_bind (L0.at (wpAny_bind (L1.at ?_))))))))
  dsimp only
  have no : (onTheHeap (Value.ref C) && Value.builtin "BaseException.__getattribute__" == Value.builtin "object.__getattribute__") = false := by
    have : (Value.builtin "BaseException.__getattribute__" == Value.builtin "object.__getattribute__") = false := by decide +kernel
    rw [this, Bool.and_false]
  rw [no, if_neg Bool.false_ne_true]
  unfold getAttrByItsOwn hookBefore
  refine wpAny_bind ?_
  rw [if_pos (show onTheHeap (Value.ref C) = true from rfl)]
  refine L2.at ?_
  refine wpAny_bind (wpAny_attempt (wpAny_holding ?_))
  unfold callGetattribute
  rw [if_neg (by simp)]
  unfold boundAndCalled
  refine wpAny_bind (wpAny_of_eq (F.attr_ValueError.ga.bind (.ref x)) ?_)
  refine wpAny_call (codeAny_call_builtin F.attr_ValueError.ga.plain F.entry_bexc_ga (exc_ga (s := ⟨h, g, d, t + 1, os⟩) Z X I (exc_entry_class (s := ⟨h, g, d, t + 1, os⟩) Z X I ?_)))
  exact PySem.W.handed_on rfl (wpAny_pure k)
end
theorem kitx_exc {K : PySem.W.Frag} {x C : Addr} (Z : ExcCls K C) : PySem.W.KitX K (.ref x) (.ref C) (fun h => ∃ a0 x1, h.get? x = some (excRec (.ref C) a0 x1)) where
  ty := fun _ h _ ⟨a0, x1, e⟩ => (show PySem.W.InstAt h x (excRec (.ref C) a0 x1) C none from ⟨e, rfl, rfl, trivial⟩).type
  it := fun _ _ X _ => by
    obtain ⟨cd, hc, _⟩ := PySem.W.any_some Z.cls
    unfold PySem.W.clsIn at hc
    split at hc
    · rename_i look
      intro A' Q' E' s' k q
      unfold isType loadHead
      exact wpAny_bind (wpAny_loadPart (k _ _ (X _ _ look)) (wpAny_pure q))
    · cases hc
  ne := fun h tp dd its n sl X htp => by
    obtain ⟨cd, hc, _⟩ := PySem.W.any_some Z.cls
    refine Bool.eq_false_iff.mpr fun q => ?_
    have e : C = tp := Value.ref.inj (beq_iff_eq.mp q)
    subst e
    unfold PySem.W.clsIn at hc
    split at hc
    · rename_i look
      have z := (X _ _ look).symm.trans htp
      cases z
    · cases hc
  ca := fun {prog w A E Q s} X p k => by
    obtain ⟨a0, x1, e⟩ := p
    exact exc_class Z X (show PySem.W.InstAt s.heap x (excRec (.ref C) a0 x1) C none from ⟨e, rfl, rfl, trivial⟩) k
def asked : V → Option Value
  | .ref D => some (.ref D)
  | .ty T => some (.type T)
  | _ => none
def rIsx (K : PySem.W.Frag) : List V → Hp → VK → Prop := fun xs H Q => ∃ a C a0 x1 c u b, xs = [.ref a, c] ∧ H a = some (excO a C a0 x1) ∧ ExcCls K C ∧ asked c = some u ∧ PySem.W.kitOne K (.ref C) u = some b ∧ Q (.bl b) H
theorem call_isx {X : Cx} : CallR X (.builtin "isinstance") (rIsx X.K) := by
  intro pins s σ H xs us Q I r h
  obtain ⟨a, C, y0, y1, c, u, b, rfl, ha, Z, hc, hb, q⟩ := h
  obtain ⟨u1, v1, rfl, ru, rv⟩ := vals2 r
  cases ru
  have e : v1 = u := by
    cases c with
    | ref D => cases hc; exact rv
    | ty T => cases hc; exact rv
    | _ => cases hc
  subst e
  have ok : ∃ a0 x1, s.heap.get? a = some (excRec (.ref C) a0 x1) := (I.hok a _ ha).2.1
  exact PySem.W.kia_one (kitx_exc Z) I.kIn ok hb (fun z => nomatch z) fun tk => ⟨.bl b, H, I.tok tk, rfl, q⟩
def GRef (mg : Str → Option Value) (x : Str) (a : Addr) : Prop := mg x = some (.ref a)
theorem pe_globR {X : Cx} {x : Str} {a : Addr} {pos : Pos} (h : GRef X.mg x a) (hg : Gl X x := by rfl) (hd : (x == ("__debug__" : Str)) = false := by decide) : PE X (.Name x pos) (tC (.ref a)) := pe_glob hg h rfl hd
end L2
set_option Elab.async false
set_option linter.all false
set_option maxRecDepth 100000
set_option maxHeartbeats 4000000
namespace L2
open PySem PySem.Spec PyProof.Rows
structure RoomX (k : Nat) (A : Around) : Prop where
  dp : A.depth + 3 * k + 5 < recursionLimit
  un : A.units + 16 * k + 200 < cLine
theorem RoomX.deeper {k : Nat} {A : Around} (r : RoomX (k + 1) A) (env : Env) : RoomX k (A.deeper env) := ⟨by have := r.dp; show A.depth + 1 + 3 * k + 5 < _; omega, by have := r.un; show A.units + 3 + 16 * k + 200 < _; omega⟩
theorem RoomX.depth {k : Nat} {A : Around} (r : RoomX k A) : A.depth < recursionLimit := by have := r.dp; omega
theorem RoomX.mono {j k : Nat} {A : Around} (r : RoomX k A) (h : j ≤ k) : RoomX j A := ⟨by have := r.dp; omega, by have := r.un; omega⟩
theorem Room.x {k : Nat} {A : Around} (r : Room k A) (h : Option Value) : RoomX k (A.mark h) := ⟨r.dp, r.un⟩
def QuietAt (A : Around) (H : Hp) : Prop := ∃ e cls a0 x1 u, A.handled = some (.ref e) ∧ H e = some (.frz (excRec cls a0 x1) u)
abbrev Quiet (X : Cx) : Prop := QuietAt X.A X.H₀
abbrev cxOfH (CX : CXT) (P : Program) (w : World) (K : PySem.W.Frag) (mg : Str → Option Value) (base : Heap) (N : List Str) (qual : Str) (scope : Scope) (f : Addr) (cd : Value) (A : Around) (outer : List Env) (s : Shared) (H : Hp) (E : XK) : Cx :=
  { cxOf CX P w K mg base N qual scope f cd A outer s H E with calm := false }
structure FnOkH (P : Program) (w : World) (K : PySem.W.Frag) (mg : Str → Option Value) (base : Heap) (CX : CXT) (k : Nat) (f : Addr) (fd : FuncData) (ps : List Str) (sp : Sp) : Prop where
  len : ∀ vs H Q E, sp vs H Q E → vs.length = ps.length
  run : ∀ (A : Around) (outer : List Env) (s : Shared) (H : Hp) (args : Args) (us : List Value) (vs : List V) (Q : VK) (E : XK), RoomX k A → QuietAt A H → Env0 P w K mg base A outer s H → BindsTo s fd args (ps.zip us) → Vals vs us → sp vs H Q E →
    codeAny (model P w) A (.call (.ref f) args) (CR CX outer P w H s Q E) s
structure TurnQ (P : Program) (w : World) (K : PySem.W.Frag) (tg : Expr) (J : It) (fp : List Addr) (it : Addr) (tn : Nat → Heap → Prop) : Prop where
  mem : it ∈ fp
  obj : ∀ i h, tn i h → ∀ b ∈ fp, ∃ o, h.get? b = some o ∧ ∀ v, o.data ≠ .cell v
  keep : ∀ i h h', tn i h → (∀ b ∈ fp, ∀ o, h.get? b = some o → h'.get? b = some o) → tn i h'
  item : ∀ (X : Cx), X.prog = P → X.w = w → X.K = K → Quiet X → ∀ (i : Nat) (pins : List (Addr × Obj)) (s : Shared) (σ : St) (H : Hp) (E : Value → Shared → Prop), Inv X pins σ H s → (∀ b ∈ fp, FpOk X pins H b) → tn i s.heap → J.go i H →
    wpAny (model P w) X.A (pyNext (.ref it)) (fun r s1 => ∃ u, r = some u ∧
      wpAny (model P w) X.A (letOwnedTupleGo tg (.ref it) u) (fun _ s2 => ∃ x H', Inv X pins σ H' s2 ∧ RelV x u ∧ J.yld i H x H' ∧ tn (i + 1) s2.heap ∧ ∀ b ∈ fp, H' b = none) E s1) E s
  done : ∀ (X : Cx), X.prog = P → X.w = w → X.K = K → Quiet X → ∀ (i : Nat) (pins : List (Addr × Obj)) (s : Shared) (σ : St) (H : Hp) (E : Value → Shared → Prop), Inv X pins σ H s → (∀ b ∈ fp, FpOk X pins H b) → tn i s.heap → J.stop i H →
    wpAny (model P w) X.A (pyNext (.ref it)) (fun r s1 => r = none ∧ Inv X pins σ H s1) E s
  self : ∀ (A : Around) (i : Nat) (s : Shared) (Q : Value → Shared → Prop) (E : Value → Shared → Prop), tn i s.heap → Q (.ref it) s → wpAny (model P w) A (pyIter (.ref it)) Q E s
def PIQE (X : Cx) (pins : List (Addr × Obj)) (σ : St) (tg : Expr) (R : It → Hp → Prop) (itv : Value) (s2 : Shared) : Prop :=
  ∃ (it : Addr) (fp : List Addr) (tn : Nat → Heap → Prop) (J : It) (H' : Hp), itv = .ref it ∧ Inv X pins σ H' s2 ∧ TurnQ X.prog X.w X.K tg J fp it tn ∧ tn 0 s2.heap ∧ (∀ b ∈ fp, FpOk X pins H' b) ∧ R J H'
def PIQ (X : Cx) (tg iter : Expr) (wi : TI) : Prop :=
  ∀ (pins : List (Addr × Obj)) (s : Shared) (σ : St) (H : Hp) (R : It → Hp → Prop), Inv X pins σ H s → wi σ H R →
    wpAny (model X.prog X.w) X.A (eval iter X.env) (fun v s1 => wpAny (model X.prog X.w) X.A (pyIter v) (PIQE X pins σ tg R) X.xe s1) X.xe s
section
variable {X : Cx} {tg : Expr}
end
section
variable {P : Program} {w : World} {K : PySem.W.Frag} {mg : Str → Option Value} {base : Heap}
structure CalleeH (P : Program) (w : World) (K : PySem.W.Frag) (mg : Str → Option Value) (base : Heap) (x : Str) (k : Nat) (ps : List Str) (sp : Sp) : Prop where
  ex : ∃ f fd, mg x = some (.ref f) ∧ PySem.W.keepIn K (.ref f) = true ∧ Binds K fd ps [] ∧ FnOkH P w K mg base CX0 k f fd ps sp
end
def tCallH (A : Around) (sp : Sp) (t : TA) : TE := fun σ H Q => t σ H fun vs H1 => QuietAt A H1 ∧ sp (vs ++ []) H1 Q E0
end L2
set_option maxHeartbeats 4000000
namespace Nim
def N (d : Nat) : Nat := 2 ^ (2 ^ d)
theorem N_pos (d : Nat) : 0 < N d := Nat.two_pow_pos _
theorem N_succ (d : Nat) : N (d + 1) = N d * N d := by
  unfold N; rw [← Nat.pow_add, Nat.pow_succ]; congr 1; omega
theorem two_le_N (d : Nat) : 2 ≤ N d := by
  unfold N
  calc 2 = 2 ^ 1 := rfl
    _ ≤ 2 ^ (2 ^ d) := Nat.pow_le_pow_right (by decide) (Nat.one_le_two_pow)
theorem xor_lt {d a b : Nat} (ha : a < N d) (hb : b < N d) : a ^^^ b < N d := Nat.xor_lt_two_pow ha hb
theorem xor_div (a b d : Nat) : (a ^^^ b) / N d = a / N d ^^^ b / N d := Nat.xor_div_two_pow
theorem xor_mod (a b d : Nat) : (a ^^^ b) % N d = a % N d ^^^ b % N d := Nat.xor_mod_two_pow
theorem xor_mul (a b d : Nat) : (a ^^^ b) * N d = a * N d ^^^ b * N d := by
  unfold N; rw [← Nat.shiftLeft_eq, ← Nat.shiftLeft_eq, ← Nat.shiftLeft_eq, Nat.shiftLeft_xor_distrib]
theorem pack_div {d x y : Nat} (hy : y < N d) : (x * N d ^^^ y) / N d = x := by
  rw [xor_div, Nat.mul_div_cancel _ (N_pos d), Nat.div_eq_of_lt hy, Nat.xor_zero]
theorem pack_mod {d x y : Nat} (hy : y < N d) : (x * N d ^^^ y) % N d = y := by
  rw [xor_mod, Nat.mul_mod_left, Nat.mod_eq_of_lt hy, Nat.zero_xor]
theorem pack_eq {d x y : Nat} (hy : y < N d) : x * N d ^^^ y = x * N d + y := by
  have h1 := pack_div (x := x) hy
  have h2 := pack_mod (x := x) hy
  have h3 := Nat.div_add_mod (x * N d ^^^ y) (N d)
  rw [h1, h2, Nat.mul_comm] at h3
  exact h3.symm
theorem pack_lt {d x y : Nat} (hx : x < N d) (hy : y < N d) : x * N d ^^^ y < N (d + 1) := by
  rw [pack_eq hy, N_succ]
  have h : (x + 1) * N d ≤ N d * N d := Nat.mul_le_mul_right _ hx
  rw [Nat.add_mul, Nat.one_mul] at h
  omega
theorem unpack {d a : Nat} : (a / N d) * N d ^^^ a % N d = a := by
  rw [pack_eq (Nat.mod_lt _ (N_pos d)), Nat.mul_comm]; exact Nat.div_add_mod a (N d)
theorem div_lt {d a : Nat} (h : a < N (d + 1)) : a / N d < N d := by
  rw [N_succ] at h; exact Nat.div_lt_of_lt_mul h
theorem mod_lt {d a : Nat} : a % N d < N d := Nat.mod_lt _ (N_pos d)
theorem half_lt (d : Nat) : N d / 2 < N d := Nat.div_lt_self (N_pos d) (by decide)
def nim : Nat → Nat → Nat → Nat
  | 0, a, b => a * b
  | d + 1, a, b =>
    (nim d (a / N d ^^^ a % N d) (b / N d ^^^ b % N d) ^^^ nim d (a % N d) (b % N d)) * N d
      ^^^ nim d (nim d (a / N d) (b / N d)) (N d / 2) ^^^ nim d (a % N d) (b % N d)
structure Fld (n : Nat) (m : Nat → Nat → Nat) : Prop where
  lt : ∀ {a b}, a < n → b < n → m a b < n
  comm : ∀ {a b}, a < n → b < n → m a b = m b a
  add : ∀ {a b c}, a < n → b < n → c < n → m a (b ^^^ c) = m a b ^^^ m a c
  assoc : ∀ {a b c}, a < n → b < n → c < n → m (m a b) c = m a (m b c)
  one : ∀ {a}, a < n → m 1 a = a
theorem Fld.zero {n m a} (h : Fld n m) (ha : a < n) (hn : 0 < n) : m a 0 = 0 := by
  have e := h.add ha hn hn
  rw [Nat.xor_self, Nat.xor_self] at e
  exact e
theorem xor_cancel (x y : Nat) : (x ^^^ y) ^^^ y = x := by rw [Nat.xor_assoc, Nat.xor_self, Nat.xor_zero]
theorem fld0 : Fld (N 0) (nim 0) := by
  have e : N 0 = 2 := rfl
  have two : ∀ {a : Nat}, a < N 0 → a = 0 ∨ a = 1 := by intro a h; rw [e] at h; omega
  refine ⟨?_, ?_, ?_, ?_, ?_⟩
  · intro a b ha hb; rcases two ha with rfl | rfl <;> rcases two hb with rfl | rfl <;> decide
  · intro a b ha hb; exact Nat.mul_comm a b
  · intro a b c ha hb hc; rcases two ha with rfl | rfl <;> rcases two hb with rfl | rfl <;> rcases two hc with rfl | rfl <;> decide
  · intro a b c ha hb hc; exact Nat.mul_assoc a b c
  · intro a ha; exact Nat.one_mul a
theorem nim_succ {d : Nat} (F : Fld (N d) (nim d)) {a b : Nat} (ha : a < N (d + 1)) (hb : b < N (d + 1)) :
    nim (d + 1) a b = (nim d (a / N d) (b / N d) ^^^ nim d (a / N d) (b % N d) ^^^ nim d (a % N d) (b / N d)) * N d
      ^^^ (nim d (nim d (a / N d) (b / N d)) (N d / 2) ^^^ nim d (a % N d) (b % N d)) := by
  have a1 := div_lt ha
  have a0 : a % N d < N d := mod_lt
  have b1 := div_lt hb
  have b0 : b % N d < N d := mod_lt
  show (nim d (a / N d ^^^ a % N d) (b / N d ^^^ b % N d) ^^^ nim d (a % N d) (b % N d)) * N d
      ^^^ nim d (nim d (a / N d) (b / N d)) (N d / 2) ^^^ nim d (a % N d) (b % N d) = _
  rw [Nat.xor_assoc (_ * N d)]
  congr 2
  rw [F.add (xor_lt a1 a0) b1 b0, F.comm (xor_lt a1 a0) b1, F.comm (xor_lt a1 a0) b0, F.add b1 a1 a0, F.add b0 a1 a0,
    F.comm b1 a1, F.comm b1 a0, F.comm b0 a1, F.comm b0 a0]
  generalize nim d (a / N d) (b / N d) = p
  generalize nim d (a / N d) (b % N d) = q
  generalize nim d (a % N d) (b / N d) = r
  generalize nim d (a % N d) (b % N d) = t
  rw [← Nat.xor_assoc, xor_cancel, Nat.xor_assoc, Nat.xor_assoc, Nat.xor_comm r q]
theorem fldS {d : Nat} (F : Fld (N d) (nim d)) : Fld (N (d + 1)) (nim (d + 1)) := by
  have Hlt : ∀ {a b}, a < N (d + 1) → b < N (d + 1) → nim (d + 1) a b < N (d + 1) := by
    intro a b ha hb
    have a1 := div_lt ha
    have a0 : a % N d < N d := mod_lt
    have b1 := div_lt hb
    have b0 : b % N d < N d := mod_lt
    rw [nim_succ F ha hb]
    exact pack_lt (xor_lt (xor_lt (F.lt a1 b1) (F.lt a1 b0)) (F.lt a0 b1)) (xor_lt (F.lt (F.lt a1 b1) (half_lt d)) (F.lt a0 b0))
  refine ⟨Hlt, ?_, ?_, ?_, ?_⟩
  · intro a b ha hb
    have a1 := div_lt ha
    have a0 : a % N d < N d := mod_lt
    have b1 := div_lt hb
    have b0 : b % N d < N d := mod_lt
    rw [nim_succ F ha hb, nim_succ F hb ha, F.comm a1 b1, F.comm a1 b0, F.comm a0 b1, F.comm a0 b0]
    congr 2
    rw [Nat.xor_assoc, Nat.xor_assoc, Nat.xor_comm (nim d (b % N d) _)]
  · intro a b c ha hb hc
    have a1 := div_lt ha
    have a0 : a % N d < N d := mod_lt
    have b1 := div_lt hb
    have b0 : b % N d < N d := mod_lt
    have c1 := div_lt hc
    have c0 : c % N d < N d := mod_lt
    have k := half_lt d
    rw [nim_succ F ha (xor_lt hb hc), nim_succ F ha hb, nim_succ F ha hc, xor_div, xor_mod,
      F.add a1 b1 c1, F.add a1 b0 c0, F.add a0 b1 c1, F.add a0 b0 c0,
      F.comm (xor_lt (F.lt a1 b1) (F.lt a1 c1)) k, F.add k (F.lt a1 b1) (F.lt a1 c1), F.comm k (F.lt a1 b1), F.comm k (F.lt a1 c1)]
    simp only [xor_mul]
    ac_rfl
  · intro a b c ha hb hc
    have a1 := div_lt ha
    have a0 : a % N d < N d := mod_lt
    have b1 := div_lt hb
    have b0 : b % N d < N d := mod_lt
    have c1 := div_lt hc
    have c0 : c % N d < N d := mod_lt
    have k := half_lt d
    have lab := xor_lt (F.lt (F.lt a1 b1) k) (F.lt a0 b0)
    have lbc := xor_lt (F.lt (F.lt b1 c1) k) (F.lt b0 c0)
    rw [nim_succ F (Hlt ha hb) hc, nim_succ F ha (Hlt hb hc), nim_succ F ha hb, nim_succ F hb hc]
    rw [pack_div lab, pack_mod lab, pack_div lbc, pack_mod lbc]
    generalize a / N d = x1 at *
    generalize a % N d = x0 at *
    generalize b / N d = y1 at *
    generalize b % N d = y0 at *
    generalize c / N d = z1 at *
    generalize c % N d = z0 at *
    generalize N d / 2 = e at *
    have add3 : ∀ {u v w t : Nat}, u < N d → v < N d → w < N d → t < N d → nim d (u ^^^ v ^^^ w) t = nim d u t ^^^ nim d v t ^^^ nim d w t := by
      intro u v w t hu hv hw ht
      rw [F.comm (xor_lt (xor_lt hu hv) hw) ht, F.add ht (xor_lt hu hv) hw, F.add ht hu hv, F.comm hu ht, F.comm hv ht, F.comm hw ht]
    have add3' : ∀ {u v w t : Nat}, u < N d → v < N d → w < N d → t < N d → nim d t (u ^^^ v ^^^ w) = nim d t u ^^^ nim d t v ^^^ nim d t w := by
      intro u v w t hu hv hw ht
      rw [F.add ht (xor_lt hu hv) hw, F.add ht hu hv]
    have add2 : ∀ {u v t : Nat}, u < N d → v < N d → t < N d → nim d (u ^^^ v) t = nim d u t ^^^ nim d v t := by
      intro u v t hu hv ht
      rw [F.comm (xor_lt hu hv) ht, F.add ht hu hv, F.comm hu ht, F.comm hv ht]
    have sw : ∀ {u v : Nat}, u < N d → v < N d → nim d (nim d u e) v = nim d (nim d u v) e := by
      intro u v hu hv
      rw [F.assoc hu k hv, F.comm k hv, ← F.assoc hu hv k]
    have p11 := F.lt a1 b1
    have p10 := F.lt a1 b0
    have p01 := F.lt a0 b1
    have p00 := F.lt a0 b0
    have q11 := F.lt b1 c1
    have q10 := F.lt b1 c0
    have q01 := F.lt b0 c1
    have q00 := F.lt b0 c0
    rw [add3 p11 p10 p01 c1, add3 p11 p10 p01 c0, add2 (F.lt p11 k) p00 c1, add2 (F.lt p11 k) p00 c0,
      add3' q11 q10 q01 a1, add3' q11 q10 q01 a0, F.add a1 (F.lt q11 k) q00, F.add a0 (F.lt q11 k) q00]
    rw [sw p11 c1, sw p11 c0, ← F.assoc a1 q11 k, ← F.assoc a0 q11 k]
    rw [F.assoc a1 b1 c1, F.assoc a1 b0 c1, F.assoc a0 b1 c1, F.assoc a1 b1 c0, F.assoc a1 b0 c0, F.assoc a0 b1 c0, F.assoc a0 b0 c1, F.assoc a0 b0 c0]
    rw [add3 (F.lt a1 q11) (F.lt a1 q01) (F.lt a0 q11) k, add3 (F.lt a1 q11) (F.lt a1 q10) (F.lt a1 q01) k]
    simp only [xor_mul]
    ac_rfl
  · intro a ha
    have a1 := div_lt ha
    have a0 : a % N d < N d := mod_lt
    have one_lt : 1 < N d := by have := two_le_N d; omega
    have o1 : (1 : Nat) < N (d + 1) := by have := two_le_N (d + 1); omega
    rw [nim_succ F o1 ha, Nat.div_eq_of_lt one_lt, Nat.mod_eq_of_lt one_lt]
    have z := N_pos d
    rw [F.comm z a1, F.zero a1 z, F.comm z a0, F.zero a0 z, F.one a1, F.one a0, F.comm z (half_lt d), F.zero (half_lt d) z]
    rw [Nat.xor_zero, Nat.zero_xor, Nat.zero_xor]
    exact unpack
theorem fld : ∀ d, Fld (N d) (nim d)
  | 0 => fld0
  | d + 1 => fldS (fld d)
def xI (x y : Int) : Int := ((x.toNat ^^^ y.toNat : Nat) : Int)
theorem N4 : N 4 = 65536 := by decide
theorem N3 : N 3 = 256 := by decide
theorem N2 : N 2 = 16 := by decide
theorem N1 : N 1 = 4 := by decide
theorem N0 : N 0 = 2 := by decide
def pI (a b d : Int) : Int := ((nim (d.toNat % 5) (a.toNat % N (d.toNat % 5)) (b.toNat % N (d.toNat % 5)) : Nat) : Int)
theorem pI_nat {a b d : Nat} (hd : d < 5) (ha : a < N d) (hb : b < N d) : pI (a : Int) (b : Int) (d : Int) = ((nim d a b : Nat) : Int) := by
  unfold pI
  rw [Int.toNat_natCast, Int.toNat_natCast, Int.toNat_natCast, Nat.mod_eq_of_lt hd, Nat.mod_eq_of_lt ha, Nat.mod_eq_of_lt hb]
theorem small {d a b : Nat} (ha : a < N d) (hb : b < N d) (h : a < 2 ∨ b < 2) : nim d a b = a * b := by
  have F := fld d
  have z := N_pos d
  rcases h with h | h
  · rcases (show a = 0 ∨ a = 1 by omega) with rfl | rfl
    · rw [F.comm z hb, F.zero hb z, Nat.zero_mul]
    · rw [F.one hb, Nat.one_mul]
  · rcases (show b = 0 ∨ b = 1 by omega) with rfl | rfl
    · rw [F.zero ha z, Nat.mul_zero]
    · rw [F.comm ha (by have := two_le_N d; omega), F.one ha, Nat.mul_one]
theorem pI_small {a b d : Int} (a0 : 0 ≤ a) (b0 : 0 ≤ b) (d0 : 0 ≤ d) (hd : d < 5) (ha : a.toNat < N d.toNat) (hb : b.toNat < N d.toNat) (h : a < 2 ∨ b < 2) :
    a * b = pI a b d := by
  obtain ⟨a, rfl⟩ := Int.eq_ofNat_of_zero_le a0
  obtain ⟨b, rfl⟩ := Int.eq_ofNat_of_zero_le b0
  obtain ⟨d, rfl⟩ := Int.eq_ofNat_of_zero_le d0
  simp only [Int.toNat_natCast] at ha hb
  rw [pI_nat (by omega) ha hb, small ha hb (by omega)]
  exact (Int.natCast_mul a b).symm
def tI (a b : Int) : Int := pI a b 4
end Nim
set_option maxHeartbeats 4000000
namespace Row
def xs {α : Type} (f : α → Nat) : List α → Nat
  | [] => 0
  | a :: r => f a ^^^ xs f r
def mexGo (S : List Nat) : Nat → Nat → Nat
  | 0, n => n
  | k + 1, n => if n ∈ S then mexGo S k (n + 1) else n
def mex (S : List Nat) : Nat := mexGo S S.length 0
abbrev Rule := Nat × Nat
def shapes (r : Rule) (last : Nat) : List (List Nat) :=
  (List.range' 1 r.2).flatMap fun many =>
    if r.1 = 2 then (if many ≤ last + 1 then [(List.range many).map fun k => last + 1 - many + k] else [])
    else if r.1 = 0 ∨ many = r.2 then
      (if many = 1 then [[last]] else []) ++ (if many = 2 then (List.range last).map fun one => [one, last] else []) ++
      (if many = 3 then (List.range last).flatMap fun one => (List.range' (one + 1) (last - (one + 1))).map fun two => [one, two, last] else [])
    else []
def IsShape (last : Nat) (s : List Nat) : Prop := ∃ a : List Nat, s = a ++ [last] ∧ (∀ p ∈ a, p < last) ∧ a.Pairwise (· < ·)
def at0 (told : List Nat) (p : Nat) : Nat := told.getD p 0
def reach (r : Rule) (told : List Nat) (last : Nat) : List Nat := (shapes r last).map fun s => xs (at0 told) s.dropLast
def nums (r : Rule) : Nat → List Nat
  | 0 => []
  | n + 1 => nums r n ++ [mex (reach r (nums r n) n)]
def num (r : Rule) (p : Nat) : Nat := mex (reach r (nums r p) p)
end Row
set_option maxHeartbeats 4000000
namespace Nim
def NoZero (n : Nat) (m : Nat → Nat → Nat) : Prop := ∀ a b, a < n → b < n → m a b = 0 → a = 0 ∨ b = 0
def NoRoot (d : Nat) : Prop := ∀ t, t < N d → nim d t t ^^^ t ≠ N d / 2
def noRootB (d n : Nat) : Bool := (List.range n).all fun t => nim d t t ^^^ t != N d / 2
def tab : List (List Nat) := [[0, 0, 0, 0, 0, 0, 0, 0, 0, 0, 0, 0, 0, 0, 0, 0, 0],
  [0, 1, 2, 3, 4, 5, 6, 7, 8, 9, 10, 11, 12, 13, 14, 15, 16],
  [0, 2, 3, 1, 8, 10, 11, 9, 12, 14, 15, 13, 4, 6, 7, 5, 32],
  [0, 3, 1, 2, 12, 15, 13, 14, 4, 7, 5, 6, 8, 11, 9, 10, 48],
  [0, 4, 8, 12, 6, 2, 14, 10, 11, 15, 3, 7, 13, 9, 5, 1, 64],
  [0, 5, 10, 15, 2, 7, 8, 13, 3, 6, 9, 12, 1, 4, 11, 14, 80],
  [0, 6, 11, 13, 14, 8, 5, 3, 7, 1, 12, 10, 9, 15, 2, 4, 96],
  [0, 7, 9, 14, 10, 13, 3, 4, 15, 8, 6, 1, 5, 2, 12, 11, 112],
  [0, 8, 12, 4, 11, 3, 7, 15, 13, 5, 1, 9, 6, 14, 10, 2, 128],
  [0, 9, 14, 7, 15, 6, 1, 8, 5, 12, 11, 2, 10, 3, 4, 13, 144],
  [0, 10, 15, 5, 3, 9, 12, 6, 1, 11, 14, 4, 2, 8, 13, 7, 160],
  [0, 11, 13, 6, 7, 12, 10, 1, 9, 2, 4, 15, 14, 5, 3, 8, 176],
  [0, 12, 4, 8, 13, 1, 9, 5, 6, 10, 2, 14, 11, 7, 15, 3, 192],
  [0, 13, 6, 11, 9, 4, 15, 2, 14, 3, 8, 5, 7, 10, 1, 12, 208],
  [0, 14, 7, 9, 5, 11, 2, 12, 10, 4, 13, 3, 15, 1, 8, 6, 224],
  [0, 15, 5, 10, 1, 14, 4, 11, 2, 13, 7, 8, 3, 12, 6, 9, 240],
  [0, 16, 32, 48, 64, 80, 96, 112, 128, 144, 160, 176, 192, 208, 224, 240, 24]]
def tb (a b : Nat) : Nat := (tab.getD a []).getD b 0
def maskD (a b c : Nat) : Nat → Nat
  | 0 => 0
  | d + 1 => maskD a b c d ||| 1 <<< (tb c b ^^^ tb a d ^^^ tb c d)
def maskC (a b : Nat) : Nat → Nat
  | 0 => 0
  | c + 1 => maskC a b c ||| maskD a b c b
end Nim
namespace Row
open Nim
def cross (as bs : List Nat) : List (Nat × Nat) := as.flatMap fun x => bs.map fun y => (x, y)
def num2 (rx ry : Rule) (p : Nat × Nat) : Nat := nim 4 (num rx p.1) (num ry p.2)
end Row
set_option maxHeartbeats 4000000
namespace Row
def Sorted (l : List Nat) : Prop := l.Pairwise (· < ·)
theorem sorted_ext : ∀ {l r : List Nat}, Sorted l → Sorted r → (∀ a, a ∈ l ↔ a ∈ r) → l = r
  | [], [], _, _, _ => rfl
  | [], b :: r, _, _, h => absurd ((h b).mpr List.mem_cons_self) (by simp)
  | a :: l, [], _, _, h => absurd ((h a).mp List.mem_cons_self) (by simp)
  | a :: l, b :: r, hl, hr, h => by
    obtain ⟨hl1, hl2⟩ := List.pairwise_cons.mp hl
    obtain ⟨hr1, hr2⟩ := List.pairwise_cons.mp hr
    have e : a = b := by
      rcases List.mem_cons.mp ((h a).mp List.mem_cons_self) with q | q
      · exact q
      · rcases List.mem_cons.mp ((h b).mpr List.mem_cons_self) with z | z
        · exact z.symm
        · have := hr1 a q
          have := hl1 b z
          omega
    subst e
    rw [sorted_ext hl2 hr2 fun c => ?_]
    constructor
    · intro hc
      rcases List.mem_cons.mp ((h c).mp (List.mem_cons_of_mem _ hc)) with q | q
      · have := hl1 c hc; omega
      · exact q
    · intro hc
      rcases List.mem_cons.mp ((h c).mpr (List.mem_cons_of_mem _ hc)) with q | q
      · have := hr1 c hc; omega
      · exact q
theorem sorted_filter (n : Nat) (p : Nat → Bool) : Sorted ((List.range n).filter p) := List.Pairwise.filter _ List.pairwise_lt_range
theorem filter_self {l : List Nat} {n : Nat} (h : Sorted l) (hn : ∀ a ∈ l, a < n) : (List.range n).filter (fun a => decide (a ∈ l)) = l := by
  refine sorted_ext (sorted_filter n _) h fun a => ?_
  rw [List.mem_filter, List.mem_range, decide_eq_true_iff]
  exact ⟨fun q => q.2, fun q => ⟨hn a q, q⟩⟩
def behind (n : Nat) (heads s : List Nat) : List Nat := (List.range n).filter fun a => decide (a ∈ heads) != decide (a ∈ s)
def weight (l : List Nat) : Nat := xs (fun p => 2 ^ p) l
def Good (r : Rule) : Prop := ((r.1 = 0 ∨ r.1 = 1) ∧ 1 ≤ r.2 ∧ r.2 ≤ 3) ∨ (r.1 = 2 ∧ 1 ≤ r.2 ∧ r.2 ≤ 40)
end Row
set_option Elab.async false
set_option linter.all false
set_option maxRecDepth 100000
set_option maxHeartbeats 4000000
namespace K4
open Nim
theorem small {a b d : Int} (a0 : 0 ≤ a) (b0 : 0 ≤ b) (P : (d = 0 ∧ a < 2 ∧ b < 2) ∨ (d = 1 ∧ a < 4 ∧ b < 4) ∨ (d = 2 ∧ a < 16 ∧ b < 16) ∨ (d = 3 ∧ a < 256 ∧ b < 256) ∨ (d = 4 ∧ a < 65536 ∧ b < 65536)) (h : a < 2 ∨ b < 2) : a * b = pI a b d := by
  rcases P with ⟨rfl, h1, h2⟩ | ⟨rfl, h1, h2⟩ | ⟨rfl, h1, h2⟩ | ⟨rfl, h1, h2⟩ | ⟨rfl, h1, h2⟩
  · exact pI_small a0 b0 (by decide) (by decide) (by show a.toNat < N 0; rw [N0]; omega) (by show b.toNat < N 0; rw [N0]; omega) h
  · exact pI_small a0 b0 (by decide) (by decide) (by show a.toNat < N 1; rw [N1]; omega) (by show b.toNat < N 1; rw [N1]; omega) h
  · exact pI_small a0 b0 (by decide) (by decide) (by show a.toNat < N 2; rw [N2]; omega) (by show b.toNat < N 2; rw [N2]; omega) h
  · exact pI_small a0 b0 (by decide) (by decide) (by show a.toNat < N 3; rw [N3]; omega) (by show b.toNat < N 3; rw [N3]; omega) h
  · exact pI_small a0 b0 (by decide) (by decide) (by show a.toNat < N 4; rw [N4]; omega) (by show b.toNat < N 4; rw [N4]; omega) h
end K4
namespace K1
open Nim
structure Part (one two bit total : Int) : Prop where
  ex : ∃ k : Nat, k ≤ 16 ∧ bit = ((2 ^ k : Nat) : Int) ∧ total = ((one.toNat % 2 ^ k ^^^ two.toNat % 2 ^ k : Nat) : Int)
theorem start (one two : Int) : (1 : Int) ≤ 1 ∧ (1 : Int) ≤ 65536 ∧ (0 : Int) ≤ 0 ∧ Part one two 1 0 :=
  ⟨by decide, by decide, by decide, ⟨0, by decide, by decide, by simp [Nat.mod_one]⟩⟩
theorem fd {x : Int} {k : Nat} (h : 0 ≤ x) : Int.fdiv x ((2 ^ k : Nat) : Int) % 2 = ((x.toNat / 2 ^ k % 2 : Nat) : Int) := by
  obtain ⟨n, rfl⟩ := Int.eq_ofNat_of_zero_le h
  rw [Int.fdiv_eq_ediv_of_nonneg _ (Int.natCast_nonneg _), Int.toNat_natCast]
  rfl
theorem lt16 {k : Nat} {bit : Int} (e : bit = ((2 ^ k : Nat) : Int)) (hk : k ≤ 16) (hb : bit < 65536) : k + 1 ≤ 16 := by
  rcases Nat.lt_or_ge k 16 with h | h
  · exact h
  · have : k = 16 := by omega
    subst this
    rw [e] at hb
    exact absurd hb (by decide)
theorem out {one two bit total : Int} (h : Part one two bit total) (hb : ¬ bit < 65536) (l1 : one < 65536) (l2 : two < 65536) : total = xI one two := by
  obtain ⟨k, hk, eb, et⟩ := h
  have k16 : k = 16 := by
    rcases Nat.lt_or_ge k 16 with h | h
    · have := Nat.pow_lt_pow_right (a := 2) (by decide) h
      have e : (2 : Nat) ^ 16 = 65536 := by decide
      omega
    · omega
  subst k16
  have e : (2 : Nat) ^ 16 = 65536 := by decide
  rw [e] at et
  rw [et, Nat.mod_eq_of_lt (by omega), Nat.mod_eq_of_lt (by omega)]
  rfl
end K1
set_option Elab.async false
set_option linter.all false
set_option maxRecDepth 100000
set_option maxHeartbeats 4000000
namespace L2
open PySem PySem.Spec PyProof.Rows PySem.SeqAt
inductive Dt where
  | int (i : Int) | str (x : Str) | seq (t : Bool) (xs : List Dt)
def Dat (K : PySem.W.Frag) (H : Hp) : Nat → Dt → V → Prop
  | 0, d, v => match d with
    | .int i => v = .int i
    | .str x => v = .str x
    | .seq _ _ => False
  | n + 1, d, v => match d with
    | .int i => v = .int i
    | .str x => v = .str x
    | .seq t xs => ∃ p vs, v = .ref p ∧ (if t = true then SqT K H p vs else SqL K H p vs) ∧ Paired (Dat K H n) xs vs
theorem Dat.int {K : PySem.W.Frag} {H : Hp} {n : Nat} {i : Int} {v : V} : Dat K H n (.int i) v ↔ v = .int i := by cases n <;> exact Iff.rfl
theorem Dat.str {K : PySem.W.Frag} {H : Hp} {n : Nat} {x : Str} {v : V} : Dat K H n (.str x) v ↔ v = .str x := by cases n <;> exact Iff.rfl
theorem paired_get {α β : Type} {F : α → β → Prop} : ∀ {l : List α} {r : List β} {i : Nat} {b : β}, Paired F l r → r[i]? = some b → ∃ a, l[i]? = some a ∧ F a b
  | _, _, i, b, .nil, h => by simp at h
  | _, _, 0, b, .cons f _, h => by simp at h; subst h; exact ⟨_, rfl, f⟩
  | _, _, i + 1, b, .cons _ t, h => by
    obtain ⟨a, h1, h2⟩ := paired_get (i := i) (b := b) t (by simpa using h)
    exact ⟨a, by simpa using h1, h2⟩
section
variable {X : Cx} {pins : List (Addr × Obj)} {σ : St} {H : Hp} {s : Shared}
theorem not_both (I : Inv X pins σ H s) {p : Addr} {vs ws : List V} (h1 : SqT X.K H p vs) (h2 : SqL X.K H p ws) : False := by
  obtain ⟨_, _, ⟨o, e, c, _⟩, _⟩ := I.tuple h1
  obtain ⟨_, _, ⟨o', n', e', c', _⟩, _⟩ := I.list h2
  rw [e] at e'
  cases e'
  rw [c] at c'
  exact absurd c' (by decide)
theorem paired_inj {α β : Type} {F G : α → β → Prop} (h : ∀ a a' b, F a b → G a' b → a = a') : ∀ {xs ys : List α} {vs : List β}, Paired F xs vs → Paired G ys vs → xs = ys
  | _, _, _, .nil, .nil => rfl
  | _, _, _, .cons r t, .cons r' t' => by rw [h _ _ _ r r', paired_inj h t t']
theorem dat_inj (I : Inv X pins σ H s) : ∀ (n : Nat) {d d' : Dt} {v : V}, Dat X.K H n d v → Dat X.K H n d' v → d = d'
  | 0, d, d', v, h, h' => by
    cases d <;> cases d' <;> first
      | exact (h : False).elim
      | exact (h' : False).elim
      | (have e := h.symm.trans h'; cases e <;> rfl)
  | n + 1, d, d', v, h, h' => by
    cases d with
    | int i =>
      cases d' with
      | int j => have e := h.symm.trans h'; cases e; rfl
      | str y => have e := h.symm.trans h'; cases e
      | seq t ys => obtain ⟨p, vs, e, _⟩ := h'; have e := h.symm.trans e; cases e
    | str x =>
      cases d' with
      | int j => have e := h.symm.trans h'; cases e
      | str y => have e := h.symm.trans h'; cases e; rfl
      | seq t ys => obtain ⟨p, vs, e, _⟩ := h'; have e := h.symm.trans e; cases e
    | seq t xs =>
      obtain ⟨p, vs, e, hs, r⟩ := h
      cases d' with
      | int j => have e := e.symm.trans h'; cases e
      | str y => have e := e.symm.trans h'; cases e
      | seq t' ys =>
        obtain ⟨q, ws, e', hs', r'⟩ := h'
        have e := e.symm.trans e'
        cases e
        cases t with
        | true =>
          rw [if_pos rfl] at hs
          cases t' with
          | true =>
            rw [if_pos rfl] at hs'
            have := I.tuple_inj hs hs'
            subst this
            rw [paired_inj (F := Dat X.K H n) (G := Dat X.K H n) (fun _ _ _ h h' => dat_inj I n h h') r r']
          | false =>
            rw [if_neg Bool.false_ne_true] at hs'
            exact (not_both I hs hs').elim
        | false =>
          rw [if_neg Bool.false_ne_true] at hs
          cases t' with
          | true =>
            rw [if_pos rfl] at hs'
            exact (not_both I hs' hs).elim
          | false =>
            rw [if_neg Bool.false_ne_true] at hs'
            have := I.list_inj hs hs'
            subst this
            rw [paired_inj (F := Dat X.K H n) (G := Dat X.K H n) (fun _ _ _ h h' => dat_inj I n h h') r r']
theorem all_range {e : Nat → Bool} {n : Nat} : (List.range n).all e = true ↔ ∀ j, j < n → e j = true := by simp
theorem items_eq {A : Around} {xs ys : List Dt} {vs ws : List V} {us us' : List Value} {n : Nat} (r : Vals vs us) (r' : Vals ws us') (h : Paired (Dat X.K H n) xs vs) (h' : Paired (Dat X.K H n) ys ws)
    (ih : ∀ (dx dy : Dt) (x y : V) (u v : Value), RelV x u → RelV y v → Dat X.K H n dx x → Dat X.K H n dy y → ∃ b, EqAt A s u v b ∧ (b = true ↔ dx = dy)) :
    ∃ e : Nat → Bool, ∀ j, (∀ (h1 : j < us.toArray.size) (h2 : j < us'.toArray.size), EqAt A s us.toArray[j] us'.toArray[j] (e j)) ∧ (j < us.length → j < us'.length → (e j = true ↔ xs[j]? = ys[j]?)) := by
  have key : ∀ j : Nat, ∃ b : Bool, (∀ (h1 : j < us.toArray.size) (h2 : j < us'.toArray.size), EqAt A s us.toArray[j] us'.toArray[j] b) ∧ (j < us.length → j < us'.length → (b = true ↔ xs[j]? = ys[j]?)) := ?_
  · exact ⟨fun j => Classical.choose (key j), fun j => Classical.choose_spec (key j)⟩
  intro j
  by_cases c : j < us.length ∧ j < us'.length
  · have l1 : j < vs.length := by rw [r.length]; exact c.1
    have l2 : j < ws.length := by rw [r'.length]; exact c.2
    obtain ⟨u, hu, ru⟩ := r.get (List.getElem?_eq_getElem l1)
    obtain ⟨u', hu', ru'⟩ := r'.get (List.getElem?_eq_getElem l2)
    obtain ⟨dx, hx, ix⟩ := paired_get h (List.getElem?_eq_getElem l1)
    obtain ⟨dy, hy, iy⟩ := paired_get h' (List.getElem?_eq_getElem l2)
    obtain ⟨b, hb, hiff⟩ := ih dx dy _ _ u u' ru ru' ix iy
    refine ⟨b, fun h1 h2 => ?_, fun _ _ => ?_⟩
    · have e1 : us.toArray[j] = u := by
        have : us[j]? = some us[j] := List.getElem?_eq_getElem c.1
        rw [hu] at this
        simpa using (Option.some.inj this).symm
      have e2 : us'.toArray[j] = u' := by
        have : us'[j]? = some us'[j] := List.getElem?_eq_getElem c.2
        rw [hu'] at this
        simpa using (Option.some.inj this).symm
      rw [e1, e2]
      exact hb
    · rw [hx, hy, hiff]
      exact ⟨fun z => by rw [z], fun z => Option.some.inj z⟩
  · refine ⟨true, fun h1 h2 => absurd ⟨by simpa using h1, by simpa using h2⟩ c, fun h1 h2 => absurd ⟨h1, h2⟩ c⟩
theorem ext_items {xs ys : List Dt} {e : Nat → Bool} {n : Nat} (h1 : xs.length = n) (h2 : ys.length = n) (he : ∀ j, j < n → (e j = true ↔ xs[j]? = ys[j]?)) : (List.range n).all e = true ↔ xs = ys := by
  rw [all_range]
  constructor
  · intro h
    refine List.ext_getElem? fun j => ?_
    rcases Nat.lt_or_ge j n with l | l
    · exact (he j l).mp (h j l)
    · rw [List.getElem?_eq_none (by omega), List.getElem?_eq_none (by omega)]
  · rintro rfl j l
    exact (he j l).mpr rfl
theorem eqD (I : Inv X pins σ H s) : ∀ (n : Nat) (A : Around) (dx dy : Dt) (x y : V) (u v : Value), A.units + n < cLine → RelV x u → RelV y v → Dat X.K H n dx x → Dat X.K H n dy y → ∃ b, EqAt A s u v b ∧ (b = true ↔ dx = dy)
  | n, A, dx, dy, x, y, u, v, hu, rx, ry, hx, hy => by
    have hu0 : A.units < cLine := by omega
    have seqs : ∀ {t : Bool} {zs : List Dt} {z : V} {w' : Value}, RelV z w' → Dat X.K H n (.seq t zs) z → ∃ m p vs us, z = .ref p ∧ n = m + 1 ∧ w' = .ref p ∧ Vals vs us ∧ Paired (Dat X.K H m) zs vs ∧ (t = true → s.heap.IsTuple p us.toArray ∧ SqT X.K H p vs) ∧ (t = false → s.heap.IsList p us.toArray ∧ SqL X.K H p vs) := by
      intro t zs z w' rz hz
      cases n with
      | zero => exact (hz : False).elim
      | succ m =>
        obtain ⟨p, vs, rfl, hs, r⟩ := hz
        cases rz
        cases t with
        | true =>
          rw [if_pos rfl] at hs
          obtain ⟨us, rv, pl, _⟩ := I.tuple hs
          exact ⟨m, p, vs, us, rfl, rfl, rfl, rv, r, fun _ => ⟨pl, hs⟩, (fun z => nomatch z)⟩
        | false =>
          rw [if_neg Bool.false_ne_true] at hs
          obtain ⟨us, rv, pl, _⟩ := I.list hs
          exact ⟨m, p, vs, us, rfl, rfl, rfl, rv, r, (fun z => nomatch z), fun _ => ⟨pl.isList, hs⟩⟩
    cases dx with
    | int i =>
      cases Dat.int.mp hx
      obtain ⟨t, rfl⟩ := rx
      cases dy with
      | int j =>
        cases Dat.int.mp hy
        obtain ⟨t', rfl⟩ := ry
        exact ⟨_, EqAt.int_int i t j t', by simp⟩
      | str z =>
        cases Dat.str.mp hy
        obtain ⟨t', rfl⟩ := ry
        exact ⟨_, EqAt.int_str i t z t', by simp⟩
      | seq b ys =>
        obtain ⟨m, p, vs, us, _, _, rfl, _, _, h1, h2⟩ := seqs ry hy
        cases b with
        | true => exact ⟨_, EqAt.int_tuple i t (h1 rfl).1 hu0, by simp⟩
        | false => exact ⟨_, EqAt.int_list i t (h2 rfl).1 hu0, by simp⟩
    | str z =>
      cases Dat.str.mp hx
      obtain ⟨t, rfl⟩ := rx
      cases dy with
      | int j =>
        cases Dat.int.mp hy
        obtain ⟨t', rfl⟩ := ry
        exact ⟨_, EqAt.str_int z t j t', by simp⟩
      | str z' =>
        cases Dat.str.mp hy
        obtain ⟨t', rfl⟩ := ry
        exact ⟨_, EqAt.str_str z t z' t', by simp⟩
      | seq b ys =>
        obtain ⟨m, p, vs, us, _, _, rfl, _, _, h1, h2⟩ := seqs ry hy
        cases b with
        | true => exact ⟨_, EqAt.str_tuple z t (h1 rfl).1 hu0, by simp⟩
        | false => exact ⟨_, EqAt.str_list z t (h2 rfl).1 hu0, by simp⟩
    | seq a xs =>
      obtain ⟨m, p, vs, us, ex, hm, rfl, rv, hp, h1, h2⟩ := seqs rx hx
      cases dy with
      | int j =>
        cases Dat.int.mp hy
        obtain ⟨t', rfl⟩ := ry
        cases a with
        | true => exact ⟨_, EqAt.tuple_int j t' (h1 rfl).1 hu0, by simp⟩
        | false => exact ⟨_, EqAt.list_int j t' (h2 rfl).1 hu0, by simp⟩
      | str z =>
        cases Dat.str.mp hy
        obtain ⟨t', rfl⟩ := ry
        cases a with
        | true => exact ⟨_, EqAt.tuple_str z t' (h1 rfl).1 hu0, by simp⟩
        | false => exact ⟨_, EqAt.list_str z t' (h2 rfl).1 hu0, by simp⟩
      | seq b ys =>
        obtain ⟨m', p', vs', us', ey, hm', rfl, rv', hp', h1', h2'⟩ := seqs ry hy
        have : m' = m := by omega
        subst this
        by_cases same : p = p'
        · subst same
          have e : x = y := by rw [ex, ey]
          subst e
          exact ⟨true, EqAt.same _, by simp [dat_inj I n hx hy]⟩
        have l1 : xs.length = us.length := by rw [← rv.length]; exact Paired.length hp
        have l2 : ys.length = us'.length := by rw [← rv'.length]; exact Paired.length hp'
        obtain ⟨e, he⟩ := items_eq (A := A.in1) rv rv' hp hp' (fun dx dy x y u v r1 r2 i1 i2 => eqD I m' A.in1 dx dy x y u v (by show A.units + 1 + m' < _; omega) r1 r2 i1 i2)
        cases a with
        | true =>
          cases b with
          | true =>
            refine ⟨_, EqAt.of_refs same (RcAt.tuples (h1 rfl).1 (h1' rfl).1 hu0 fun j a1 a2 => (he j).1 a1 a2), ?_⟩
            rw [Bool.and_eq_true]
            simp only [List.size_toArray, beq_iff_eq]
            constructor
            · rintro ⟨z1, z2⟩
              rw [z2, Nat.min_self] at z1
              rw [(ext_items (by omega) (by omega) fun j l => (he j).2 (by omega) l).mp z1]
            · intro z
              cases z
              have z2 : us.length = us'.length := by omega
              refine ⟨?_, z2⟩
              rw [z2, Nat.min_self]
              exact (ext_items (by omega) (by omega) fun j l => (he j).2 (by omega) l).mpr rfl
          | false => exact ⟨_, EqAt.tuple_list (h1 rfl).1 (h2' rfl).1 hu0, by simp⟩
        | false =>
          cases b with
          | true => exact ⟨_, EqAt.list_tuple (h2 rfl).1 (h1' rfl).1 hu0, by simp⟩
          | false =>
            by_cases hs : us.length = us'.length
            · refine ⟨_, EqAt.of_refs same (RcAt.lists (h2 rfl).1 (h2' rfl).1 (by simpa using hs) hu0 fun j a1 a2 => (he j).1 a1 a2), ?_⟩
              simp only [List.size_toArray]
              rw [ext_items (xs := xs) (ys := ys) (by omega) (by omega) fun j l => (he j).2 l (by omega)]
              simp
            · refine ⟨_, EqAt.of_refs same (RcAt.lists_lengths (h2 rfl).1 (h2' rfl).1 (by simpa using hs) hu0), ?_⟩
              simp
              intro z
              subst z
              exact hs (by omega)
termination_by n => n
decreasing_by all_goals omega
theorem rcD (I : Inv X pins σ H s) {n : Nat} {A : Around} {t : Bool} {xs ys : List Dt} {x y : V} {u v : Value} (hu : A.units + (n + 1) < cLine) (rx : RelV x u) (ry : RelV y v) (hx : Dat X.K H (n + 1) (.seq t xs) x) (hy : Dat X.K H (n + 1) (.seq t ys) y) :
    ∃ b, RcAt A s u v b ∧ RcNeAt A s u v (!b) ∧ (b = true ↔ xs = ys) := by
  obtain ⟨p, vs, rfl, hs, r⟩ := hx
  obtain ⟨p', vs', rfl, hs', r'⟩ := hy
  cases rx
  cases ry
  have hu0 : A.units < cLine := by omega
  have items : ∀ {us us' : List Value}, Vals vs us → Vals vs' us' → ∃ e : Nat → Bool, ∀ j, (∀ (h1 : j < us.toArray.size) (h2 : j < us'.toArray.size), EqAt A.in1 s us.toArray[j] us'.toArray[j] (e j)) ∧ (j < us.length → j < us'.length → (e j = true ↔ xs[j]? = ys[j]?)) :=
    fun rv rv' => items_eq (A := A.in1) rv rv' r r' (fun dx dy x y u v r1 r2 i1 i2 => eqD I n A.in1 dx dy x y u v (by show A.units + 1 + n < _; omega) r1 r2 i1 i2)
  cases t with
  | true =>
    rw [if_pos rfl] at hs hs'
    obtain ⟨us, rv, pl, _⟩ := I.tuple hs
    obtain ⟨us', rv', pl', _⟩ := I.tuple hs'
    obtain ⟨e, he⟩ := items rv rv'
    have l1 : xs.length = us.length := by rw [← rv.length]; exact Paired.length r
    have l2 : ys.length = us'.length := by rw [← rv'.length]; exact Paired.length r'
    refine ⟨_, RcAt.tuples pl pl' hu0 (fun j a1 a2 => (he j).1 a1 a2), RcNeAt.tuples pl pl' hu0 (fun j a1 a2 => (he j).1 a1 a2), ?_⟩
    rw [Bool.and_eq_true]
    simp only [List.size_toArray, beq_iff_eq]
    constructor
    · rintro ⟨z1, z2⟩
      rw [z2, Nat.min_self] at z1
      exact (ext_items (by omega) (by omega) fun j l => (he j).2 (by omega) l).mp z1
    · intro z
      have z2 : us.length = us'.length := by rw [← l1, ← l2, z]
      refine ⟨?_, z2⟩
      rw [z2, Nat.min_self]
      exact (ext_items (by omega) (by omega) fun j l => (he j).2 (by omega) l).mpr z
  | false =>
    rw [if_neg Bool.false_ne_true] at hs hs'
    obtain ⟨us, rv, pl, _⟩ := I.list hs
    obtain ⟨us', rv', pl', _⟩ := I.list hs'
    obtain ⟨e, he⟩ := items rv rv'
    have l1 : xs.length = us.length := by rw [← rv.length]; exact Paired.length r
    have l2 : ys.length = us'.length := by rw [← rv'.length]; exact Paired.length r'
    by_cases hz : us.length = us'.length
    · refine ⟨_, RcAt.lists pl.isList pl'.isList (by simpa using hz) hu0 (fun j a1 a2 => (he j).1 a1 a2), RcNeAt.lists pl.isList pl'.isList (by simpa using hz) hu0 (fun j a1 a2 => (he j).1 a1 a2), ?_⟩
      simp only [List.size_toArray]
      exact ext_items (xs := xs) (ys := ys) (by omega) (by omega) fun j l => (he j).2 l (by omega)
    · refine ⟨false, RcAt.lists_lengths pl.isList pl'.isList (by simpa using hz) hu0, RcNeAt.lists_lengths pl.isList pl'.isList (by simpa using hz) hu0, ?_⟩
      simp
      intro z
      exact hz (by rw [← l1, ← l2, z])
def rEqD (K : PySem.W.Frag) (n : Nat) : R2 := fun x y H Q => ∃ t xs ys, Dat K H (n + 1) (.seq t xs) x ∧ Dat K H (n + 1) (.seq t ys) y ∧ ∀ b, (b = true ↔ xs = ys) → Q (.bl b) H
def rNeD (K : PySem.W.Frag) (n : Nat) : R2 := fun x y H Q => ∃ t xs ys, Dat K H (n + 1) (.seq t xs) x ∧ Dat K H (n + 1) (.seq t ys) y ∧ ∀ b, (b = true ↔ ¬ xs = ys) → Q (.bl b) H
theorem op_eqD {n k : Nat} (hr : Room k X.A) (hn : n < 60) : OpR X (compareOp .Eq) (rEqD X.K n) := by
  intro pins s σ H x y u v Q I rx ry h
  obtain ⟨t, xs, ys, hx, hy, q⟩ := h
  obtain ⟨b, h1, _, hb⟩ := rcD I (A := X.A) (by have := hr.units; omega) rx ry hx hy
  exact h1 _ _ _ _ ⟨.bl b, H, I, rfl, q b hb⟩
theorem op_neD {n k : Nat} (hr : Room k X.A) (hn : n < 60) : OpR X (compareOp .NotEq) (rNeD X.K n) := by
  intro pins s σ H x y u v Q I rx ry h
  obtain ⟨t, xs, ys, hx, hy, q⟩ := h
  obtain ⟨b, _, h1, hb⟩ := rcD I (A := X.A) (by have := hr.units; omega) rx ry hx hy
  refine h1 _ _ _ _ ⟨.bl (!b), H, I, rfl, q _ ?_⟩
  cases b with
  | true => simp [hb.mp rfl]
  | false => simp; exact fun z => absurd (hb.mpr z) Bool.false_ne_true
theorem relV_inj : ∀ {x y : V} {u : Value}, RelV x u → RelV y u → x = y := by
  intro x y u h h'
  cases x <;> cases y <;> (try obtain ⟨_, rfl⟩ := h) <;> (try obtain ⟨_, h'⟩ := h') <;> (try cases h) <;> (try cases h') <;> rfl
theorem in_items (I : Inv X pins σ H s) {n : Nat} {A : Around} {dx : Dt} {ds : List Dt} {x : V} {vs : List V} {u : Value} {us : List Value} (hu : A.units + n < cLine) (rx : RelV x u) (hx : Dat X.K H n dx x) (rv : Vals vs us) (r : Paired (Dat X.K H n) ds vs) :
    ∃ e : Value → Bool, (∀ y, y ∈ us.toArray → EqAt A s y u (e y)) ∧ (us.toArray.any e = true ↔ dx ∈ ds) := by
  have key : ∀ y : Value, ∃ b : Bool, (y ∈ us → EqAt A s y u b) ∧ ((∃ vy, vy ∈ vs ∧ RelV vy y) → (b = true ↔ ∃ vy, RelV vy y ∧ Dat X.K H n dx vy)) := by
    intro y
    by_cases hy : ∃ vy, vy ∈ vs ∧ RelV vy y
    · obtain ⟨vy, hv, ry⟩ := hy
      obtain ⟨j, hj⟩ := List.getElem?_of_mem hv
      obtain ⟨dy, _, iy⟩ := paired_get r hj
      obtain ⟨b, h1, h2⟩ := eqD I n A dy dx vy x y u hu ry rx iy hx
      refine ⟨b, fun _ => h1, fun _ => ?_⟩
      rw [h2]
      constructor
      · rintro rfl
        exact ⟨vy, ry, iy⟩
      · rintro ⟨vz, rz, iz⟩
        rw [relV_inj rz ry] at iz
        exact dat_inj I n iy iz
    · refine ⟨true, fun hm => ?_, fun z => absurd z hy⟩
      exfalso
      obtain ⟨j, hj⟩ := List.getElem?_of_mem hm
      have hl : j < vs.length := by rw [rv.length]; exact (List.getElem?_eq_some_iff.mp hj).1
      obtain ⟨w', hw, rw'⟩ := rv.get (List.getElem?_eq_getElem hl)
      rw [hj] at hw
      cases hw
      exact hy ⟨_, List.getElem_mem hl, rw'⟩
  refine ⟨fun y => Classical.choose (key y), fun y hy => (Classical.choose_spec (key y)).1 (by simpa using hy), ?_⟩
  have back : ∀ y, y ∈ us → ∃ vy, vy ∈ vs ∧ RelV vy y := fun y hm => by
    obtain ⟨j, hj⟩ := List.getElem?_of_mem hm
    have hl : j < vs.length := by rw [rv.length]; exact (List.getElem?_eq_some_iff.mp hj).1
    obtain ⟨w', hw, rw'⟩ := rv.get (List.getElem?_eq_getElem hl)
    rw [hj] at hw
    cases hw
    exact ⟨_, List.getElem_mem hl, rw'⟩
  rw [show us.toArray.any (fun y => Classical.choose (key y)) = us.any (fun y => Classical.choose (key y)) by simp, List.any_eq_true]
  constructor
  · rintro ⟨y, hy, hb⟩
    obtain ⟨vz, rz, iz⟩ := ((Classical.choose_spec (key y)).2 (back y hy)).mp hb
    obtain ⟨vy, hv, ry⟩ := back y hy
    rw [relV_inj rz ry] at iz
    obtain ⟨j, hj⟩ := List.getElem?_of_mem hv
    obtain ⟨dy, hd, iy⟩ := paired_get r hj
    rw [dat_inj I n iz iy]
    exact List.mem_of_getElem? hd
  · intro hm
    obtain ⟨j, hj⟩ := List.getElem?_of_mem hm
    have hl : j < vs.length := by rw [← Paired.length r]; exact (List.getElem?_eq_some_iff.mp hj).1
    obtain ⟨dy, hd, iy⟩ := paired_get r (List.getElem?_eq_getElem hl)
    rw [hj] at hd
    cases hd
    obtain ⟨y, hy, ry⟩ := rv.get (List.getElem?_eq_getElem hl)
    exact ⟨y, List.mem_of_getElem? hy, ((Classical.choose_spec (key y)).2 ⟨_, List.getElem_mem hl, ry⟩).mpr ⟨_, ry, iy⟩⟩
def rInD (K : PySem.W.Frag) (n : Nat) (neg : Bool) : R2 := fun x y H Q => ∃ dx t ds, Dat K H n dx x ∧ Dat K H (n + 1) (.seq t ds) y ∧ ∀ b, (b = true ↔ dx ∈ ds) → Q (.bl (if neg then !b else b)) H
theorem op_inD {n k : Nat} (hr : Room k X.A) (hn : n < 60) : OpR X (compareOp .In) (rInD X.K n false) := by
  intro pins s σ H x y v u Q I rx ry h
  obtain ⟨dx, t, ds, hx, ⟨p, vs, rfl, hs, r⟩, q⟩ := h
  cases ry
  have hu : X.A.in1.units + n < cLine := by have := hr.units; show X.A.units + 1 + n < _; omega
  cases t with
  | true =>
    rw [if_pos rfl] at hs
    obtain ⟨us, rv, pl, _⟩ := I.tuple hs
    obtain ⟨e, h1, h2⟩ := in_items I (A := X.A.in1) hu rx hx rv r
    exact in_tupleAt e pl h1 ⟨.bl _, H, I, rfl, q _ h2⟩
  | false =>
    rw [if_neg Bool.false_ne_true] at hs
    obtain ⟨us, rv, pl, _⟩ := I.list hs
    obtain ⟨e, h1, h2⟩ := in_items I (A := X.A.in1) hu rx hx rv r
    exact in_listAt e pl.isList h1 ⟨.bl _, H, I, rfl, q _ h2⟩
end
end L2
set_option Elab.async false
set_option linter.all false
set_option maxRecDepth 100000
set_option maxHeartbeats 4000000
namespace L2
open PySem PySem.Spec PyProof.Rows
def nl (xs : List Nat) : List V := xs.map fun (n : Nat) => V.int (n : Int)
theorem nl_length (xs : List Nat) : (nl xs).length = xs.length := List.length_map _
theorem Same.upd {H0 H : Hp} {l : Addr} {o : HO} (h : Same H0 H) (n : H0 l = none) : Same H0 (upd H l o) := fun b u e => by
  rw [upd_ne (ne_of_none e n)]
  exact h b u e
theorem Same.new {H0 H : Hp} {p : Addr} {o : HO} (h : Same H0 H) (n : H p = none) : Same H0 (L2.upd H p o) := h.upd (h.free n)
def RL (H0 H : Hp) (xss : List (List Nat)) (rs : List Addr) : Prop := Paired (fun xs r => H r = some (.lst (nl xs)) ∧ H0 r = none) xss rs
theorem RL.length {H0 H : Hp} {xss : List (List Nat)} {rs : List Addr} (h : RL H0 H xss rs) : xss.length = rs.length := Paired.length h
theorem RL.same {H0 H H' : Hp} {xss : List (List Nat)} {rs : List Addr} (h : RL H0 H xss rs) (e : Same H H') : RL H0 H' xss rs := Paired.mapP h fun _ _ q => ⟨e _ _ q.1, q.2⟩
theorem RL.base {H0 H1 H : Hp} {xss : List (List Nat)} {rs : List Addr} (h : RL H1 H xss rs) (e : Same H0 H1) : RL H0 H xss rs := Paired.mapP h fun _ _ q => ⟨q.1, e.free q.2⟩
theorem paired_app {α β : Type} {F : α → β → Prop} : ∀ {xs ys : List α} {rs ss : List β}, Paired F xs rs → Paired F ys ss → Paired F (xs ++ ys) (rs ++ ss)
  | _, _, _, _, .nil, h => h
  | _, _, _, _, .cons f t, h => .cons f (paired_app t h)
theorem paired_mem {α β : Type} {F : α → β → Prop} : ∀ {xs : List α} {rs : List β} {r : β}, Paired F xs rs → r ∈ rs → ∃ x ∈ xs, F x r
  | _, _, _, .nil, h => by cases h
  | _, _, _, .cons f t, h => by
    rcases List.mem_cons.mp h with rfl | h
    · exact ⟨_, List.mem_cons_self, f⟩
    · obtain ⟨x, hx, q⟩ := paired_mem t h
      exact ⟨x, List.mem_cons_of_mem _ hx, q⟩
theorem RL.apart {H0 H : Hp} {xss : List (List Nat)} {rs : List Addr} {l : Addr} (h : RL H0 H xss rs) (e : H l = some (.lst (rs.map V.ref))) : l ∉ rs := fun hm => by
  obtain ⟨xs, _, q, _⟩ := paired_mem h hm
  rw [e] at q
  have q : rs.map V.ref = nl xs := by injection q with q; injection q
  cases rs with
  | nil => cases hm
  | cons r rs => cases xs with
    | nil => cases q
    | cons x xs => injection q with q _; cases q
theorem RL.set {H0 H : Hp} {xss : List (List Nat)} {rs : List Addr} {l : Addr} {o : HO} (h : RL H0 H xss rs) (n : l ∉ rs) : RL H0 (upd H l o) xss rs := by
  induction h with
  | nil => exact .nil
  | @cons x r xs rs f t ih =>
    refine .cons ⟨?_, f.2⟩ (ih fun z => n (List.mem_cons_of_mem _ z))
    rw [upd_ne (fun z => n (by rw [← z]; exact List.mem_cons_self))]
    exact f.1
def word : Nat → Str
  | 0 => "most"
  | 1 => "just"
  | _ => "run"
def ruleV (r : Row.Rule) : List V := [V.str (word r.1), V.int (r.2 : Int)]
def ruleOf (c : Int) (most run : Nat) : Row.Rule := if c % 3 = 2 then (2, 1 + (c / 3 % run).toNat) else ((c % 3).toNat, 1 + (c / 3 % most).toNat)
theorem ruleOf_good {c : Int} {most run : Nat} (h1 : 1 ≤ most) (h2 : most ≤ 3) (h3 : 1 ≤ run) (h4 : run ≤ 40) : Row.Good (ruleOf c most run) := by
  unfold ruleOf Row.Good
  have a0 := Int.emod_nonneg (c / 3) (by omega : (most : Int) ≠ 0)
  have a1 := Int.emod_lt_of_pos (c / 3) (by omega : (0 : Int) < most)
  have b0 := Int.emod_nonneg (c / 3) (by omega : (run : Int) ≠ 0)
  have b1 := Int.emod_lt_of_pos (c / 3) (by omega : (0 : Int) < run)
  split
  · right; refine ⟨rfl, ?_, ?_⟩ <;> dsimp only <;> omega
  · left; refine ⟨?_, ?_, ?_⟩ <;> dsimp only <;> omega
def spRule (most run : Nat) : Sp := fun vs H Q _ => ∃ c : Int, vs = [.int c] ∧ ∀ H' p, Same H H' → H' p = some (.tup (ruleV (ruleOf c most run))) → H p = none → Q (.ref p) H'
def headsOf (c : Int) (first many : Nat) : List Nat := ((List.range many).filter fun k => decide (c / 2 ^ k % 2 = 1)).map (first + ·)
theorem half (c : Int) (k : Nat) : c / 2 ^ k / 2 = c / 2 ^ (k + 1) := by
  rw [Int.pow_succ, Int.ediv_ediv_of_nonneg (by exact Int.pow_nonneg (by decide))]
def spHeads : Sp := fun vs H Q _ => ∃ (c : Int) (m : Nat), vs = [.int c, .int (m : Int)] ∧ m ≤ 1000 ∧ ∀ H' p, Same H H' → H' p = some (.lst (nl (headsOf c 0 m))) → H p = none → Q (.ref p) H'
def spHeads3 : Sp := fun vs H Q _ => ∃ (c : Int) (f m : Nat), vs = [.int c, .int (f : Int), .int (m : Int)] ∧ m ≤ 1000 ∧ ∀ H' p, Same H H' → H' p = some (.lst (nl (headsOf c f m))) → H p = none → Q (.ref p) H'
def spShapes (K : PySem.W.Frag) : Sp := fun vs H Q _ => ∃ (pr : Addr) (r : Row.Rule) (last : Nat), vs = [.ref pr, .int (last : Int)] ∧ SqT K H pr (ruleV r) ∧ Row.Good r ∧ last < 40 ∧
  ∀ H' p rs, Same H H' → H p = none → H' p = some (.lst (rs.map V.ref)) → RL H H' (Row.shapes r last) rs → Q (.ref p) H'
theorem Same.tup {K : PySem.W.Frag} {H H' : Hp} {a : Addr} {xs : List V} (e : Same H H') (h : SqT K H a xs) : SqT K H' a xs := by
  rcases h with (h | ⟨o, h⟩) | h
  · exact .inl (.inl (e _ _ h))
  · exact .inl (.inr ⟨o, e _ _ h⟩)
  · exact .inr h
end L2
namespace Row
def part (r : Rule) (last many : Nat) : List (List Nat) :=
  if r.1 = 2 then (if many ≤ last + 1 then [(List.range many).map fun k => last + 1 - many + k] else [])
  else if r.1 = 0 ∨ many = r.2 then
    (if many = 1 then [[last]] else []) ++ (if many = 2 then (List.range last).map fun one => [one, last] else []) ++
    (if many = 3 then (List.range last).flatMap fun one => (List.range' (one + 1) (last - (one + 1))).map fun two => [one, two, last] else [])
  else []
def upTo (r : Rule) (last n : Nat) : List (List Nat) := (List.range' 1 n).flatMap (part r last)
def threes (last n : Nat) : List (List Nat) := (List.range n).flatMap fun one => (List.range' (one + 1) (last - (one + 1))).map fun two => [one, two, last]
end Row
set_option Elab.async false
set_option linter.all false
set_option maxRecDepth 100000
set_option maxHeartbeats 4000000
namespace L2
open PySem PySem.Spec PyProof.Rows
def EvE (t : TE) (σ : St) (H : Hp) (v : V) : Prop := ∀ Q : VK, Q v H → t σ H Q
def EvT (t : TT) (σ : St) (H : Hp) (b : Bool) : Prop := ∀ Q : Bool → Hp → Prop, Q b H → t σ H Q
def EvA (t : TA) (σ : St) (H : Hp) (vs : List V) : Prop := ∀ Q : List V → Hp → Prop, Q vs H → t σ H Q
section
variable {K : PySem.W.Frag} {σ : St} {H : Hp} {ta tb t : TE} {x y v : V} {i j : Int} {c d : TT} {a b : Bool} {D : Ends} {s u : TS} {ts : TA}
theorem ev_var {n : Nat} (h : σ[n]? = some (some v)) : EvE (tVar n) σ H v := fun Q q => ⟨v, h, q⟩
theorem ev_c : EvE (tC v) σ H v := fun Q q => q
theorem ev_i0 {g : Int → Int → V} (ha : EvE ta σ H (.int i)) (hb : EvE tb σ H (.int j)) : EvE (tOp (rI0 g) ta tb) σ H (g i j) := fun Q q => ha _ (hb _ ⟨i, j, rfl, rfl, q⟩)
theorem ev_i {C : Int → Int → Prop} {g : Int → Int → V} (ha : EvE ta σ H (.int i)) (hb : EvE tb σ H (.int j)) (hc : C i j) : EvE (tOp (rI C g) ta tb) σ H (g i j) := fun Q q => ha _ (hb _ ⟨i, j, rfl, rfl, hc, q⟩)
theorem ev_u {g : Int → V} (ha : EvE ta σ H (.int i)) : EvE (tUn (rU g) ta) σ H (g i) := fun Q q => ha _ ⟨i, rfl, q⟩
theorem ev_ixT {p : Addr} {xs : List V} (ha : EvE ta σ H (.ref p)) (hb : EvE tb σ H (.int i)) (h : SqT K H p xs) (e : atI xs i = some v) : EvE (tOp (rIxT K) ta tb) σ H v := fun Q q => ha _ (hb _ ⟨p, xs, i, v, rfl, rfl, h, e, q⟩)
theorem ev_ixL {p : Addr} {xs : List V} (ha : EvE ta σ H (.ref p)) (hb : EvE tb σ H (.int i)) (h : SqL K H p xs) (e : atI xs i = some v) : EvE (tOp (rIxL K) ta tb) σ H v := fun Q q => ha _ (hb _ ⟨p, xs, i, v, rfl, rfl, h, e, q⟩)
theorem ev_eq (ha : EvE ta σ H x) (hb : EvE tb σ H y) (hs : scal x y = true) : EvE (tOp rEq ta tb) σ H (.bl (decide (x = y))) := fun Q q => ha _ (hb _ ⟨hs, q⟩)
theorem ev_ne (ha : EvE ta σ H x) (hb : EvE tb σ H y) (hs : scal x y = true) : EvE (tOp rNe ta tb) σ H (.bl (!decide (x = y))) := fun Q q => ha _ (hb _ ⟨hs, q⟩)
theorem ev_eqI (ha : EvE ta σ H (.int i)) (hb : EvE tb σ H (.int j)) : EvE (tOp rEq ta tb) σ H (.bl (decide (i = j))) := fun Q q => ha _ (hb _ ⟨rfl, by
  rw [show decide (V.int i = V.int j) = decide (i = j) by rw [Bool.eq_iff_iff]; simp]; exact q⟩)
theorem ev_neI (ha : EvE ta σ H (.int i)) (hb : EvE tb σ H (.int j)) : EvE (tOp rNe ta tb) σ H (.bl (!decide (i = j))) := fun Q q => ha _ (hb _ ⟨rfl, by
  rw [show decide (V.int i = V.int j) = decide (i = j) by rw [Bool.eq_iff_iff]; simp]; exact q⟩)
theorem ev_test (h : EvE t σ H (.bl b)) : EvT (tTest t) σ H b := fun Q q => h _ ⟨b, rfl, q⟩
theorem ev_tB (h : EvE t σ H (.bl b)) : EvT (tB t) σ H b := fun Q q => h _ ⟨b, rfl, q⟩
theorem ev_or (h1 : EvT c σ H a) (h2 : a = false → EvT d σ H b) : EvT (tOr c d) σ H (a || b) := fun Q q => h1 _ (by
  cases a with
  | true => exact q
  | false => exact h2 rfl _ q)
theorem ev_and (h1 : EvT c σ H a) (h2 : a = true → EvT d σ H b) : EvT (tAnd c d) σ H (a && b) := fun Q q => h1 _ (by
  cases a with
  | true => exact h2 rfl _ q
  | false => exact q)
theorem ev_not (h : EvT c σ H a) : EvT (tNot c) σ H (!a) := fun Q q => h _ q
theorem ev_andV (h1 : EvE ta σ H (.bl a)) (h2 : a = true → EvE tb σ H (.bl b)) : EvE (tAndV ta tb) σ H (.bl (a && b)) := fun Q q => h1 _ ⟨a, rfl, by
  cases a with
  | true => exact h2 rfl _ q
  | false => exact q⟩
theorem ev_orV (h1 : EvE ta σ H (.bl a)) (h2 : a = false → EvE tb σ H (.bl b)) : EvE (tOrV ta tb) σ H (.bl (a || b)) := fun Q q => h1 _ ⟨a, rfl, by
  cases a with
  | true => exact q
  | false => exact h2 rfl _ q⟩
theorem ev_nil : EvA tNil σ H [] := fun Q q => q
theorem ev_cons {vs : List V} (ha : EvE ta σ H v) (hr : EvA ts σ H vs) : EvA (tCons ta ts) σ H (v :: vs) := fun Q q => ha _ (hr _ q)
theorem ev_call {sp : Sp} {E : XK} {vs : List V} (ha : EvA ts σ H vs) (hr : ∀ Q : VK, Q v H → sp (vs ++ []) H Q E) : EvE (tCall sp [] E ts) σ H v := fun Q q => ha _ (hr _ q)
theorem ifS_of (h : EvT c σ H b) (ht : b = true → s D σ H) (hu : b = false → u D σ H) : tIfS c s u D σ H := h _ (by
  cases b with
  | true => exact ht rfl
  | false => exact hu rfl)
theorem seq_of (h : s { D with nx := u D } σ H) : tSeq s u D σ H := h
theorem next_of (h : D.nx σ H) : tNext D σ H := h
theorem asg_of {n : Nat} (h : EvE t σ H v) (q : D.nx (σ.set n (some v)) H) : tAsg t (gName n) D σ H := h _ q
theorem ret_of (h : EvE t σ H v) (q : D.rt v H) : tRet t D σ H := h _ q
theorem rng1_of {R : It → Hp → Prop} (h : EvA ts σ H [.int j]) (h1 : -(2 ^ 62) ≤ j) (h2 : j < 2 ^ 62) (q : R (Itr 0 j.toNat) H) : iRng1 ts σ H R := h _ ⟨j, rfl, h1, h2, q⟩
theorem rng2_of {R : It → Hp → Prop} (h : EvA ts σ H [.int i, .int j]) (h1 : -(2 ^ 62) ≤ i) (h2 : i < 2 ^ 62) (h3 : -(2 ^ 62) ≤ j) (h4 : j < 2 ^ 62) (q : R (Itr i (j - i).toNat) H) : iRng2 ts σ H R := h _ ⟨i, j, rfl, ⟨h1, h2, h3, h4⟩, q⟩
theorem word_run {n : Nat} (h : n ≤ 2) : decide (V.str (word n) = V.str "run") = decide (n = 2) := by
  rcases (by omega : n = 0 ∨ n = 1 ∨ n = 2) with rfl | rfl | rfl <;> decide
theorem word_just {n : Nat} (h : n ≤ 2) : decide (V.str (word n) = V.str "just") = decide (n = 1) := by
  rcases (by omega : n = 0 ∨ n = 1 ∨ n = 2) with rfl | rfl | rfl <;> decide
theorem ev_rule0 {n : Nat} {pr : Addr} {r : Row.Rule} (hv : σ[n]? = some (some (.ref pr))) (h : SqT K H pr (ruleV r)) : EvE (tOp (rIxT K) (tVar n) (tC (V.int 0))) σ H (.str (word r.1)) := ev_ixT (ev_var hv) ev_c h rfl
theorem ev_rule1 {n : Nat} {pr : Addr} {r : Row.Rule} (hv : σ[n]? = some (some (.ref pr))) (h : SqT K H pr (ruleV r)) : EvE (tOp (rIxT K) (tVar n) (tC (V.int 1))) σ H (.int (r.2 : Int)) := ev_ixT (ev_var hv) ev_c h rfl
theorem ev_isRun {n : Nat} {pr : Addr} {r : Row.Rule} (hv : σ[n]? = some (some (.ref pr))) (h : SqT K H pr (ruleV r)) (h2 : r.1 ≤ 2) : EvE (tOp rEq (tOp (rIxT K) (tVar n) (tC (V.int 0))) (tC (V.str "run"))) σ H (.bl (decide (r.1 = 2))) := by
  rw [← word_run h2]
  exact ev_eq (ev_rule0 hv h) ev_c rfl
end
end L2
set_option Elab.async false
set_option linter.all false
set_option maxRecDepth 100000
set_option maxHeartbeats 4000000
namespace L2
open PySem PySem.Spec PyProof.Rows
structure Seen (kvs : List (Key × V)) (S : List Nat) : Prop where
  len : kvs.length ≤ S.length
  has : ∀ m : Nat, (valV kvs (Sum.inl (m : Int))).isSome = true ↔ m ∈ S
theorem Seen.nil : Seen [] [] := ⟨Nat.le_refl _, fun m => by simp [valV]⟩
theorem Seen.put {kvs : List (Key × V)} {S : List Nat} (h : Seen kvs S) (n : Nat) : Seen (putK kvs (Sum.inl (n : Int) : Key) (V.bl true)) (S ++ [n]) := by
  refine ⟨?_, fun m => ?_⟩
  · have := length_putK kvs (Sum.inl (n : Int) : Key) (V.bl true)
    have := h.len
    rw [List.length_append, List.length_singleton]
    omega
  · rw [valV_put, List.mem_append, List.mem_singleton, ← h.has m]
    by_cases e : m = n
    · rw [if_pos (by rw [e])]
      simp [e]
    · rw [if_neg (by intro z; have z : (m : Int) = n := by injection z
                     omega)]
      simp [e]
def spOver (K : PySem.W.Frag) : Sp := fun vs H Q _ => ∃ (pt pp : Addr) (told places : List Nat), vs = [.ref pt, .ref pp] ∧ SqL K H pt (nl told) ∧ SqL K H pp (nl places) ∧ (∀ a ∈ places, a < told.length) ∧ Q (.int (Row.xs (Row.at0 told) places : Int)) H
def spNumbers (K : PySem.W.Frag) : Sp := fun vs H Q _ => ∃ (pr : Addr) (r : Row.Rule) (m : Nat), vs = [.ref pr, .int (m : Int)] ∧ SqT K H pr (ruleV r) ∧ Row.Good r ∧ m ≤ 40 ∧ ∀ H' p, Same H H' → H p = none → H' p = some (.lst (nl (Row.nums r m))) → Q (.ref p) H'
end L2
set_option Elab.async false
set_option linter.all false
set_option maxRecDepth 100000
set_option maxHeartbeats 4000000
namespace Row
structure IsRow (hs : List Nat) : Prop where
  sorted : Sorted hs
  lt : ∀ a ∈ hs, a < 40
def turnsOf (r : Rule) (hs : List Nat) : List (List Nat) := hs.flatMap (shapes r)
def Lets (r : Rule) (hs : List Nat) (ts : List Int) : Prop := ∃ t : List Nat, ts = t.map (fun (n : Nat) => (n : Int)) ∧ ∃ last ∈ hs, t ∈ shapes r last
def replyOf (r : Rule) (hs : List Nat) : Option (List Nat) := (turnsOf r hs).find? fun t => xs (num r) t == xs (num r) hs
end Row
namespace L2
open PySem PySem.Spec PyProof.Rows
def spTurns (K : PySem.W.Frag) : Sp := fun vs H Q _ => ∃ (pr ph : Addr) (r : Row.Rule) (hs : List Nat), vs = [.ref pr, .ref ph] ∧ SqT K H pr (ruleV r) ∧ Row.Good r ∧ SqL K H ph (nl hs) ∧ Row.IsRow hs ∧
  ∀ H' p rs, Same H H' → H p = none → H' p = some (.lst (rs.map V.ref)) → RL H H' (Row.turnsOf r hs) rs → rs.Nodup → p ∉ rs → Q (.ref p) H'
def spAllows (K : PySem.W.Frag) : Sp := fun vs H Q _ => ∃ (pr ph pt : Addr) (r : Row.Rule) (hs : List Nat) (ts : List Int), vs = [.ref pr, .ref ph, .ref pt] ∧ SqT K H pr (ruleV r) ∧ Row.Good r ∧ SqL K H ph (nl hs) ∧ Row.IsRow hs ∧ SqL K H pt (ts.map V.int) ∧ ts.length ≤ 1000 ∧
  ∀ H' b, Same H H' → (b = true ↔ Row.Lets r hs ts) → Q (.bl b) H'
def spAfter (K : PySem.W.Frag) (cT : Addr) : Sp := fun vs H Q E => ∃ (pr ph pt : Addr) (r : Row.Rule) (hs : List Nat) (ts : List Int), vs = [.ref pr, .ref ph, .ref pt] ∧ SqT K H pr (ruleV r) ∧ Row.Good r ∧ SqL K H ph (nl hs) ∧ Row.IsRow hs ∧ SqL K H pt (ts.map V.int) ∧ ts.length ≤ 1000 ∧
  (∀ t : List Nat, ts = t.map (fun (n : Nat) => (n : Int)) → (∃ last ∈ hs, t ∈ Row.shapes r last) → ∀ H' p, Same H H' → H p = none → H' p = some (.lst (nl (Row.behind 40 hs t))) → Q (.ref p) H') ∧
  (¬ Row.Lets r hs ts → ∀ H', Same H H' → E (.ref cT) none H')
def spNumberOf (K : PySem.W.Frag) : Sp := fun vs H Q _ => ∃ (pr : Addr) (r : Row.Rule) (n : Nat), vs = [.ref pr, .int (n : Int)] ∧ SqT K H pr (ruleV r) ∧ Row.Good r ∧ n < 40 ∧ ∀ H', Same H H' → Q (.int (Row.num r n : Int)) H'
def spValue (K : PySem.W.Frag) : Sp := fun vs H Q _ => ∃ (pr ph : Addr) (r : Row.Rule) (hs : List Nat), vs = [.ref pr, .ref ph] ∧ SqT K H pr (ruleV r) ∧ Row.Good r ∧ SqL K H ph (nl hs) ∧ Row.IsRow hs ∧ ∀ H', Same H H' → Q (.int (Row.xs (Row.num r) hs : Int)) H'
def spReply (K : PySem.W.Frag) : Sp := fun vs H Q _ => ∃ (pr ph : Addr) (r : Row.Rule) (hs : List Nat), vs = [.ref pr, .ref ph] ∧ SqT K H pr (ruleV r) ∧ Row.Good r ∧ SqL K H ph (nl hs) ∧ Row.IsRow hs ∧
  (Row.xs (Row.num r) hs = 0 → ∀ H', Same H H' → Q .non H') ∧
  (Row.xs (Row.num r) hs ≠ 0 → ∀ t, Row.replyOf r hs = some t → ∀ H' p, Same H H' → H p = none → H' p = some (.lst (nl t)) → Q (.ref p) H')
theorem nl_mem {xs : List Nat} {i : Nat} {x : V} (h : (nl xs)[i]? = some x) : ∃ a, xs[i]? = some a ∧ x = V.int (a : Int) := by
  unfold nl at h
  rw [List.getElem?_map] at h
  cases e : xs[i]? with
  | none => rw [e] at h; cases h
  | some a => rw [e] at h; cases h; exact ⟨a, rfl, rfl⟩
theorem Callee.mono {P : Program} {w : World} {K : PySem.W.Frag} {mg : Str → Option Value} {base : Heap} {x : Str} {j k : Nat} {ps : List Str} {sp : Sp} (C : Callee P w K mg base x j ps sp) (h : j ≤ k) : Callee P w K mg base x k ps sp := by
  obtain ⟨f, fd, hm, hkp, hb, F⟩ := C.ex
  exact ⟨f, fd, hm, hkp, hb, F.mono h⟩
theorem CalleeX.mono {P : Program} {w : World} {K : PySem.W.Frag} {mg : Str → Option Value} {base : Heap} {x : Str} {j k : Nat} {ps : List Str} {sp : Sp} (C : CalleeX P w K mg base x j ps sp) (h : j ≤ k) : CalleeX P w K mg base x k ps sp := by
  obtain ⟨f, fd, hm, hkp, hb, F⟩ := C.ex
  exact ⟨f, fd, hm, hkp, hb, F.mono h⟩
end L2
namespace Row
def others (r : Rule) (last : Nat) : List (List Nat) :=
  (List.range' 1 r.2).flatMap fun many =>
    if r.1 = 2 then (if many ≤ last + 1 then [(List.range (many - 1)).map fun k => last - 1 - k] else [])
    else if r.1 = 0 ∨ many = r.2 then
      (if many = 1 then [[]] else []) ++ (if many = 2 then (List.range last).map fun one => [one] else []) ++
      (if many = 3 then (List.range last).flatMap fun one => (List.range one).map fun two => [one, two] else [])
    else []
def opart (r : Rule) (last many : Nat) : List (List Nat) :=
  if r.1 = 2 then (if many ≤ last + 1 then [(List.range (many - 1)).map fun k => last - 1 - k] else [])
  else if r.1 = 0 ∨ many = r.2 then
    (if many = 1 then [[]] else []) ++ (if many = 2 then (List.range last).map fun one => [one] else []) ++
    (if many = 3 then (List.range last).flatMap fun one => (List.range one).map fun two => [one, two] else [])
  else []
def oUpTo (r : Rule) (last n : Nat) : List (List Nat) := (List.range' 1 n).flatMap (opart r last)
def twos (n : Nat) : List (List Nat) := (List.range n).flatMap fun one => (List.range one).map fun two => [one, two]
end Row
namespace L2
open PySem PySem.Spec PyProof.Rows
def spOthers (K : PySem.W.Frag) : Sp := fun vs H Q _ => ∃ (pr : Addr) (r : Row.Rule) (last : Nat), vs = [.ref pr, .int (last : Int)] ∧ SqT K H pr (ruleV r) ∧ Row.Good r ∧ last < 40 ∧
  ∀ H' p rs, Same H H' → H p = none → H' p = some (.lst (rs.map V.ref)) → RL H H' (Row.others r last) rs → Q (.ref p) H'
end L2
namespace L2
open PySem PySem.Spec PyProof.Rows
theorem ev_cell {K : PySem.W.Frag} {σ : St} {H : Hp} {n : Nat} {a : Addr} {ns : List Int} (k : Nat) (h : σ[n]? = some (some (.ref a))) (hS : SqL K H a (ns.map V.int)) : EvE (tCall (spCell K) [] E0 (tCons (tVar n) (tCons (tC (V.int (k : Int))) tNil))) σ H (.int (cell ns k)) :=
  ev_call (ev_cons (ev_var h) (ev_cons ev_c ev_nil)) fun Q q => ⟨a, ns, k, rfl, hS, q⟩
end L2
namespace L2
open PySem PySem.Spec PyProof.Rows
def nd (xs : List Nat) : List Dt := xs.map fun (n : Nat) => Dt.int (n : Int)
theorem nd_inj {xs ys : List Nat} (h : nd xs = nd ys) : xs = ys := by
  induction xs generalizing ys with
  | nil => cases ys with
    | nil => rfl
    | cons y ys => cases h
  | cons x xs ih => cases ys with
    | nil => cases h
    | cons y ys =>
      injection h with h1 h2
      have h1 : (x : Int) = y := by injection h1
      rw [ih h2, show x = y by omega]
theorem nd_paired {K : PySem.W.Frag} {H : Hp} {n : Nat} : ∀ xs : List Nat, Paired (Dat K H n) (nd xs) (nl xs)
  | [] => .nil
  | x :: xs => .cons (Dat.int.mpr rfl) (nd_paired xs)
theorem dat_list {K : PySem.W.Frag} {H : Hp} {n : Nat} {p : Addr} {xs : List Nat} (h : SqL K H p (nl xs)) : Dat K H (n + 1) (.seq false (nd xs)) (.ref p) := ⟨p, _, rfl, by rw [if_neg Bool.false_ne_true]; exact h, nd_paired xs⟩
section
variable {K : PySem.W.Frag} {σ : St} {H : Hp} {ta tb : TE}
theorem ev_neL {p p' : Addr} {xs ys : List Nat} (ha : EvE ta σ H (.ref p)) (hb : EvE tb σ H (.ref p')) (h : SqL K H p (nl xs)) (h' : SqL K H p' (nl ys)) : EvE (tOp (rNeD K 0) ta tb) σ H (.bl (!decide (xs = ys))) := fun Q q => ha _ (hb _ ⟨false, nd xs, nd ys, dat_list h, dat_list h', fun b hb => by
  have : b = !decide (xs = ys) := by
    rw [Bool.eq_iff_iff, hb]
    simp
    exact ⟨fun z e => z (by rw [e]), fun z e => z (nd_inj e)⟩
  rw [this]
  exact q⟩)
theorem ev_isList {p : Addr} {xs : List V} {r : TA} (hr : EvA r σ H [.ref p, .ty "list"]) (h : H p = some (.lst xs)) : EvE (tCB (fun xs H Q => ∃ x T t b, xs = [x, .ty T] ∧ TyOf K H x t ∧ PySem.W.kitOne K t (.type T) = some b ∧ Q (.bl b) H) r) σ H (.bl true) :=
  fun Q q => hr _ ⟨_, _, _, true, rfl, .lst h, rfl, q⟩
theorem ev_isInt {i : Int} {r : TA} (hr : EvA r σ H [.int i, .ty "int"]) : EvE (tCB (fun xs H Q => ∃ x T t b, xs = [x, .ty T] ∧ TyOf K H x t ∧ PySem.W.kitOne K t (.type T) = some b ∧ Q (.bl b) H) r) σ H (.bl true) :=
  fun Q q => hr _ ⟨_, _, _, true, rfl, .int i, rfl, q⟩
theorem ev_notBool {i : Int} {r : TA} (hr : EvA r σ H [.int i, .ty "bool"]) : EvE (tCB (fun xs H Q => ∃ x T t b, xs = [x, .ty T] ∧ TyOf K H x t ∧ PySem.W.kitOne K t (.type T) = some b ∧ Q (.bl b) H) r) σ H (.bl false) :=
  fun Q q => hr _ ⟨_, _, _, false, rfl, .int i, by first | rfl | decide +kernel, q⟩
theorem ev_lenL {p : Addr} {xs : List V} {r : TA} (hr : EvA r σ H [.ref p]) (h : SqL K H p xs) : EvE (tCB (fun xs H Q => ∃ p ys, xs = [.ref p] ∧ (SqL K H p ys ∨ SqT K H p ys) ∧ Q (.int ys.length) H) r) σ H (.int xs.length) :=
  fun Q q => hr _ ⟨p, xs, rfl, .inl h, q⟩
end
end L2
namespace Row
theorem sorted_len {hs : List Nat} {n : Nat} (h : Sorted hs) (hl : ∀ a ∈ hs, a < n) : hs.length ≤ n := by
  rw [← filter_self h hl]
  refine Nat.le_trans (List.length_filter_le _ _) ?_
  rw [List.length_range]
  exact Nat.le_refl _
theorem IsRow.len {hs : List Nat} (h : IsRow hs) : hs.length ≤ 40 := sorted_len h.sorted h.lt
theorem IsRow.take {hs : List Nat} (h : IsRow hs) (i : Nat) : IsRow (hs.take i) := ⟨List.Pairwise.sublist (List.take_sublist _ _) h.sorted, fun a ha => h.lt a (List.mem_of_mem_take ha)⟩
end Row
namespace L2
open PySem PySem.Spec PyProof.Rows
theorem cut {s R : TS} {D : Ends} {σ : St} {H : Hp} (Pv : St → Hp → Prop) (h : ∀ X : St → Hp → Prop, (∀ σ' H', Pv σ' H' → X σ' H') → s { D with nx := X } σ H) (hR : ∀ σ' H', Pv σ' H' → R D σ' H') : tSeq s R D σ H := h (R D) hR
end L2
namespace L2
open PySem PySem.Spec PyProof.Rows
end L2
set_option Elab.async false
set_option linter.all false
set_option maxRecDepth 100000
set_option maxHeartbeats 4000000
namespace L2
open PySem PySem.Spec PyProof.Rows
theorem comp_range_if {wi : TI} {ix : List Nat} {tc : TT} {te : TE} {σ : St} {H H1 : Hp} {Q : VK} {lo : Int} {n : Nat} (p : Nat → Bool) (f : Nat → V) (hw : ∀ R : It → Hp → Prop, R (Itr lo n) H1 → wi σ H R) (hn : n < sizeLine)
    (hc : ∀ (i : Nat) (H' : Hp), i < n → Same H1 H' → EvT tc (some (.int (lo + i)) :: slots σ ix) H' (p i))
    (he : ∀ (i : Nat) (H' : Hp), i < n → p i = true → Same H1 H' → EvE te (some (.int (lo + i)) :: slots σ ix) H' (f i))
    (q : ∀ acc, H1 acc = none → Q (.ref acc) (upd H1 acc (.lst (((List.range n).filter p).map f)))) :
    tComp wi ix tc te σ H Q := by
  refine hw _ fun acc hacc => ⟨fun i m H2 => i ≤ n ∧ m = n - i ∧ H2 = upd H1 acc (.lst (((List.range i).filter p).map f)), ⟨n, Nat.zero_le _, by simp, by simp⟩, ?_⟩
  rintro i m H2 ⟨hi, rfl, rfl⟩
  by_cases hlt : i < n
  · refine .inr ⟨hlt, ?_⟩
    rintro x H3 ⟨rfl, rfl⟩
    refine hc i _ hlt (same_new hacc _) _ ?_
    have e : (List.range (i + 1)).filter p = (List.range i).filter p ++ if p i = true then [i] else [] := by
      rw [List.range_succ, List.filter_append]
      congr 1
      by_cases c : p i = true <;> simp [c]
    have hl : (((List.range i).filter p).map f).length ≤ i := by
      rw [List.length_map]
      refine Nat.le_trans (List.length_filter_le _ _) ?_
      rw [List.length_range]
      exact Nat.le_refl _
    by_cases c : p i = true
    · rw [c, if_pos rfl]
      refine he i _ hlt c (same_new hacc _) _ ⟨_, upd_same, by omega, n - (i + 1), by omega, hlt, rfl, ?_⟩
      rw [upd_upd, e, if_pos c, List.map_append]
      rfl
    · rw [if_neg c]
      refine ⟨n - (i + 1), by omega, hlt, rfl, ?_⟩
      rw [e, if_neg c, List.append_nil]
  · have e : i = n := by omega
    subst e
    exact .inl ⟨Nat.le_refl _, q acc hacc⟩
section
variable {K : PySem.W.Frag} {σ : St} {H : Hp} {ta tb : TE} {i : Int}
theorem inV_int (i : Int) (ys : List Int) : inV (.int i) (ys.map V.int) = decide (i ∈ ys) := by
  unfold inV
  induction ys with
  | nil => rfl
  | cons y ys ih =>
    rw [List.map_cons, List.any_cons, ih]
    by_cases c : y = i
    · subst c
      simp [eqV]
    · have c2 : ¬ i = y := fun z => c z.symm
      simp [eqV, c, c2]
theorem flat_ints (ys : List Int) : (ys.map V.int).all flatV = true := by
  rw [List.all_map, List.all_eq_true]
  intro x _
  rfl
theorem ev_inI {p : Addr} {ys : List Int} (ha : EvE ta σ H (.int i)) (hb : EvE tb σ H (.ref p)) (h : SqL K H p (ys.map V.int)) : EvE (tOp (rIn K false) ta tb) σ H (.bl (decide (i ∈ ys))) :=
  fun Q q => ha _ (hb _ ⟨p, _, rfl, .inl h, rfl, flat_ints ys, by
    rw [inV_int]
    exact q⟩)
def ni (xs : List Nat) : List Int := xs.map fun (n : Nat) => (n : Int)
theorem nl_ni (xs : List Nat) : nl xs = (ni xs).map V.int := by unfold nl ni; rw [List.map_map]; rfl
theorem mem_ni {n : Nat} {xs : List Nat} : (n : Int) ∈ ni xs ↔ n ∈ xs := by
  unfold ni
  rw [List.mem_map]
  exact ⟨fun ⟨a, ha, e⟩ => by have e : a = n := by omega
                              exact e ▸ ha, fun h => ⟨n, h, rfl⟩⟩
theorem ev_inN {p : Addr} {n : Nat} {xs : List Nat} (ha : EvE ta σ H (.int (n : Int))) (hb : EvE tb σ H (.ref p)) (h : SqL K H p (nl xs)) : EvE (tOp (rIn K false) ta tb) σ H (.bl (decide (n ∈ xs))) := by
  rw [nl_ni] at h
  have := ev_inI ha hb h
  rwa [show decide ((n : Int) ∈ ni xs) = decide (n ∈ xs) from by simp only [mem_ni]] at this
theorem ev_dIn {d : Addr} {kvs : List (Key × V)} {S : List Nat} {n : Nat} (ha : EvE ta σ H (.int (n : Int))) (hb : EvE tb σ H (.ref d)) (hd : H d = some (.dK kvs)) (hs : Seen kvs S) : EvE (tDIn ta tb) σ H (.bl (decide (n ∈ S))) := fun Q q => ha _ (hb _ ⟨d, _, rfl, .inl ⟨kvs, Sum.inl (n : Int), .of hd, rfl, rfl⟩, by
    have e : (valV kvs (Sum.inl (n : Int))).isSome = decide (n ∈ S) := by
      rw [Bool.eq_iff_iff, hs.has n, decide_eq_true_iff]
    rw [e]
    exact q⟩)
end
def spRule3 : Sp := fun vs H Q _ => ∃ (c : Int) (most run : Nat), vs = [.int c, .int (most : Int), .int (run : Int)] ∧ 1 ≤ most ∧ 1 ≤ run ∧ ∀ H' p, Same H H' → H' p = some (.tup (ruleV (ruleOf c most run))) → H p = none → Q (.ref p) H'
def spSome (K : PySem.W.Frag) : Sp := fun vs H Q _ => ∃ (a : Addr) (ns : List Int), vs = [.ref a] ∧ SqL K H a (ns.map V.int) ∧ ∀ H' p hs, Same H H' → H p = none → H' p = some (.lst (nl hs)) → Row.IsRow hs → Q (.ref p) H'
def firstBy (r : Row.Rule) (told hs : List Nat) : Option (List Nat) := (Row.turnsOf r hs).find? fun t => Row.xs (Row.at0 told) t == Row.xs (Row.at0 told) hs
def spFirst (K : PySem.W.Frag) : Sp := fun vs H Q _ => ∃ (pr pt ph : Addr) (r : Row.Rule) (told hs : List Nat), vs = [.ref pr, .ref pt, .ref ph] ∧ SqT K H pr (ruleV r) ∧ Row.Good r ∧ SqL K H pt (nl told) ∧ SqL K H ph (nl hs) ∧ Row.IsRow hs ∧ (∀ a ∈ hs, a < told.length) ∧
  (firstBy r told hs = none → ∀ H', Same H H' → Q .non H') ∧ (∀ t, firstBy r told hs = some t → ∀ H' p, Same H H' → H p = none → H' p = some (.lst (nl t)) → Q (.ref p) H')
end L2
namespace L2
open PySem PySem.Spec PyProof.Rows
end L2
namespace Row
end Row
namespace L2
open PySem PySem.Spec PyProof.Rows
end L2
namespace Row
end Row
namespace L2
open PySem PySem.Spec PyProof.Rows
def spReached (K : PySem.W.Frag) : Sp := fun vs H Q _ => ∃ (pr pt : Addr) (r : Row.Rule) (told : List Nat), vs = [.ref pr, .ref pt] ∧ SqT K H pr (ruleV r) ∧ Row.Good r ∧ SqL K H pt (nl told) ∧ told.length < 40 ∧
  ∀ H' d kvs, Same H H' → H d = none → H' d = some (.dK kvs) → Seen kvs ((Row.others r told.length).map (Row.xs (Row.at0 told))) → Q (.ref d) H'
end L2
namespace L2
open PySem PySem.Spec PyProof.Rows
theorem dput_of {D : Ends} {σ : St} {H : Hp} {td ty tv : TE} {d : Addr} {v : V} {i : Int} {kvs : List (Key × V)} (hv : EvE tv σ H v) (hd : EvE td σ H (.ref d)) (hy : EvE ty σ H (.int i)) (h : H d = some (.dK kvs)) (hl : kvs.length < sizeLine)
    (q : D.nx σ (upd H d (.dK (putK kvs (Sum.inl i) v)))) : sDPut td ty tv D σ H := hv _ (hd _ (hy _ ⟨d, _, rfl, DPut.k (k := Sum.inl i) h hl, q⟩))
end L2
namespace Row
end Row
namespace L2
open PySem PySem.Spec PyProof.Rows
def spIs : Sp := fun vs H Q _ => ∃ i j : Int, vs = [.int i, .int j] ∧ Q (.bl (decide (i = j))) H
end L2
namespace L2
open PySem PySem.Spec PyProof.Rows
theorem at_end {xs : List V} {x : V} : atI (xs ++ [x]) (-1) = some x := atI_last xs x
end L2
namespace Row
end Row
namespace L2
open PySem PySem.Spec PyProof.Rows
section
variable {t ta tb : TE} {c d : TT} {ts : TA} {σ : St} {H : Hp} {v : V} {vs : List V} {a b : Bool} {i j : Int} {D : Ends} {s u : TS}
def EvG (t : TE) (σ : St) (H : Hp) (v : V) : Prop := ∀ Q : VK, (∀ H', Same H H' → Q v H') → t σ H Q
def EvGT (c : TT) (σ : St) (H : Hp) (b : Bool) : Prop := ∀ Q : Bool → Hp → Prop, (∀ H', Same H H' → Q b H') → c σ H Q
def EvGA (ts : TA) (σ : St) (H : Hp) (vs : List V) : Prop := ∀ Q : List V → Hp → Prop, (∀ H', Same H H' → Q vs H') → ts σ H Q
theorem evg_e (h : EvE t σ H v) : EvG t σ H v := fun Q q => h _ (q _ (Same.refl H))
theorem evg_t (h : EvT c σ H b) : EvGT c σ H b := fun Q q => h _ (q _ (Same.refl H))
theorem evg_a (h : EvA ts σ H vs) : EvGA ts σ H vs := fun Q q => h _ (q _ (Same.refl H))
theorem evg_call {sp : Sp} {E : XK} (ha : EvGA ts σ H vs) (hr : ∀ H1, Same H H1 → ∀ Q : VK, (∀ H', Same H1 H' → Q v H') → sp (vs ++ []) H1 Q E) : EvG (tCall sp [] E ts) σ H v := fun Q q => ha _ fun H1 s1 => hr H1 s1 _ fun H2 s2 => q _ (s1.trans s2)
theorem evg_tB (h : EvG t σ H (.bl b)) : EvGT (tB t) σ H b := fun Q q => h _ fun H1 s1 => ⟨b, rfl, q _ s1⟩
theorem evg_test (h : EvG t σ H (.bl b)) : EvGT (tTest t) σ H b := fun Q q => h _ fun H1 s1 => ⟨b, rfl, q _ s1⟩
theorem evg_not (h : EvGT c σ H b) : EvGT (tNot c) σ H (!b) := fun Q q => h _ fun H1 s1 => q _ s1
theorem evg_or (h1 : EvGT c σ H a) (h2 : a = false → ∀ H1, Same H H1 → EvGT d σ H1 b) : EvGT (tOr c d) σ H (a || b) := fun Q q => h1 _ fun H1 s1 => by
  cases a with
  | true => rw [if_pos rfl]; exact q _ s1
  | false => rw [if_neg (by decide)]; exact h2 rfl H1 s1 _ fun H2 s2 => q _ (s1.trans s2)
theorem evg_andV (h1 : EvG ta σ H (.bl a)) (h2 : a = true → ∀ H1, Same H H1 → EvG tb σ H1 (.bl b)) : EvG (tAndV ta tb) σ H (.bl (a && b)) := fun Q q => h1 _ fun H1 s1 => ⟨a, rfl, by
  cases a with
  | false => rw [if_neg (by decide)]; exact q _ s1
  | true => rw [if_pos rfl]; exact h2 rfl H1 s1 _ fun H2 s2 => q _ (s1.trans s2)⟩
theorem ifG_of (h : EvGT c σ H b) (ht : b = true → ∀ H1, Same H H1 → s D σ H1) (hu : b = false → ∀ H1, Same H H1 → u D σ H1) : tIfS c s u D σ H := h _ fun H1 s1 => by
  cases b with
  | true => rw [if_pos rfl]; exact ht rfl H1 s1
  | false => rw [if_neg (by decide)]; exact hu rfl H1 s1
theorem asgG_of {n : Nat} (h : EvG t σ H v) (q : ∀ H1, Same H H1 → D.nx (σ.set n (some v)) H1) : tAsg t (gName n) D σ H := h _ q
end
end L2
set_option Elab.async false
set_option linter.all false
set_option maxRecDepth 100000
set_option maxHeartbeats 4000000
namespace L2
open PySem PySem.Spec PyProof.Rows
def ndd (xss : List (List Nat)) : List Dt := xss.map fun xs => Dt.seq false (nd xs)
def rdN (xs : List V) : List Nat := xs.map fun v => match v with
  | .int i => i.toNat
  | _ => 0
def wtAt (k : Nat) (σ : St) (H : Hp) : Nat := match σ[k]? with
  | some (some (.ref p)) => match H p with
    | some (.lst xs) => Row.weight (rdN xs)
    | _ => 0
  | _ => 0
def spTurnsL (K : PySem.W.Frag) : Sp := fun vs H Q _ => ∃ (pr ph : Addr) (r : Row.Rule) (hs : List Nat), vs = [.ref pr, .ref ph] ∧ SqT K H pr (ruleV r) ∧ Row.Good r ∧ SqL K H ph (nl hs) ∧ Row.IsRow hs ∧
  ∀ H' p rs, Same H H' → H p = none → H' p = some (.lst (rs.map V.ref)) → RL H H' (Row.turnsOf r hs) rs → Q (.ref p) H'
def spBehind (K : PySem.W.Frag) (n : Nat) : Sp := fun vs H Q _ => ∃ (ph pt : Addr) (hs t : List Nat), vs = [.ref ph, .ref pt] ∧ SqL K H ph (nl hs) ∧ SqL K H pt (nl t) ∧ ∀ H' p, Same H H' → H p = none → H' p = some (.lst (nl (Row.behind n hs t))) → Q (.ref p) H'
def spIsTurn : Sp := fun vs H Q _ => ∃ (pt pw : Addr) (t : List Nat) (xss : List (List Nat)) (rs : List Addr), vs = [.ref pt, .ref pw] ∧ H pt = some (.lst (nl t)) ∧ H pw = some (.lst (rs.map V.ref)) ∧ RL (fun _ => none) H xss rs ∧ Q (.bl (decide (t ∈ xss))) H
end L2
namespace Row
theorem xor_zero {a b : Nat} (h : a = b) : a ^^^ b = 0 := by rw [h, Nat.xor_self]
end Row
namespace L2
open PySem PySem.Spec PyProof.Rows
theorem ev_neB {σ : St} {H : Hp} {ta tb : TE} {a b : Bool} (ha : EvE ta σ H (.bl a)) (hb : EvE tb σ H (.bl b)) : EvE (tOp rNe ta tb) σ H (.bl (a != b)) := by
  have := ev_ne ha hb (by cases a <;> cases b <;> rfl)
  rwa [show (!decide (V.bl a = V.bl b)) = (a != b) from by cases a <;> cases b <;> simp] at this
end L2
namespace L2
open PySem PySem.Spec PyProof.Rows
theorem op_in_k {X : Cx} {K : PySem.W.Frag} (h : X.K = K) : OpR X (compareOp .In) (rIn K false) := by subst h; exact op_in_seq
theorem ix_listK {X : Cx} {K : PySem.W.Frag} (h : X.K = K) : IxR X (rIxL K) := by subst h; exact ix_list
theorem call_lenK {X : Cx} {K : PySem.W.Frag} (h : X.K = K) : CallR X (.builtin "len") (fun xs H Q => ∃ p ys, xs = [.ref p] ∧ (SqL K H p ys ∨ SqT K H p ys) ∧ Q (.int ys.length) H) := by subst h; exact call_len_seq
end L2
namespace L2
open PySem PySem.Spec PyProof.Rows
end L2
namespace L2
open PySem PySem.Spec PyProof.Rows
end L2
namespace L2
open PySem PySem.Spec PyProof.Rows
theorem call_listK {X : Cx} {K : PySem.W.Frag} (h : X.K = K) : CallR X (.type "list") (fun xs H Q => ∃ p ys, xs = [.ref p] ∧ (SqL K H p ys ∨ SqT K H p ys) ∧ ∀ l, H l = none → Q (.ref l) (upd H l (.lst ys))) := by subst h; exact call_list_of
end L2
set_option linter.all false
set_option maxRecDepth 100000
set_option maxHeartbeats 4000000
namespace Row
def oddOnesGo : Nat → Nat → Bool
  | 0, _ => false
  | f + 1, n => if n = 0 then false else (n % 2 == 1) != oddOnesGo f (n / 2)
def oddOnes (n : Nat) : Bool := oddOnesGo 64 n
def mostNum (k p : Nat) : Nat := if k = 1 then 1 else if k = 2 then p + 1 else if oddOnes p then 2 * p else 2 * p + 1
def runGo (k p : Nat) : Nat → Nat → Nat
  | 0, w => w
  | f + 1, w => if 2 * w ≤ k ∧ (p + 1) % (2 * w) = 0 then runGo k p f (2 * w) else w
def runNum (k p : Nat) : Nat := runGo k p 64 1
def clNum (r : Rule) (p : Nat) : Nat := if r.1 = 2 then runNum r.2 p else if r.1 = 0 then mostNum r.2 p else if p < r.2 - 1 then 0 else mostNum r.2 (p - (r.2 - 1))
def hits (n : Nat) (S : List Nat) : Bool := (List.range n).all fun m => S.any fun s => Nat.beq s m
def leastB (n : Nat) (S : List Nat) : Bool := S.all (fun s => !Nat.beq s n) && hits n S
def scan : Nat → List Nat → Nat → List Nat
  | _, _, 0 => []
  | a, [], _ + 1 => [a]
  | a, x :: r, n + 1 => a :: scan (a ^^^ x) r n
def pairs : List Nat → List Nat
  | [] => []
  | x :: r => r.map (fun y => x ^^^ y) ++ pairs r
def sums (r : Rule) (rev : List Nat) : List Nat :=
  if r.1 = 2 then scan 0 rev r.2
  else if r.1 = 0 then (if r.2 = 1 then [0] else if r.2 = 2 then 0 :: rev else 0 :: (rev ++ pairs rev))
  else (if r.2 = 1 then [0] else if r.2 = 2 then rev else pairs rev)
def chk (r : Rule) : Nat → Nat → List Nat → Bool
  | 0, _, _ => true
  | n + 1, p, rev => leastB (clNum r p) (sums r rev) && chk r n (p + 1) (clNum r p :: rev)
def revTo (f : Nat → Nat) : Nat → List Nat
  | 0 => []
  | p + 1 => f p :: revTo f p
end Row
set_option Elab.async false
set_option linter.all false
set_option maxRecDepth 100000
set_option maxHeartbeats 1000000
namespace Row
def Steps (r : Rule) (ts : List Int) : Prop := ∀ k, 1 ≤ k → k < ts.length → ts.getD (k - 1) 0 < ts.getD k 0 ∧ (r.1 = 2 → ts.getD k 0 = ts.getD (k - 1) 0 + 1)
end Row
set_option Elab.async false
set_option linter.all false
set_option maxRecDepth 100000
set_option maxHeartbeats 4000000
namespace L2
open PySem PySem.Spec PyProof.Rows
theorem ev_notJust {K : PySem.W.Frag} {σ : St} {H : Hp} {n : Nat} {pr : Addr} {r : Row.Rule} (hv : σ[n]? = some (some (.ref pr))) (h : SqT K H pr (ruleV r)) (h2 : r.1 ≤ 2) : EvE (tOp rNe (tOp (rIxT K) (tVar n) (tC (V.int 0))) (tC (V.str "just"))) σ H (.bl (!decide (r.1 = 1))) := by
  have := ev_ne (ev_rule0 hv h) (ev_c (v := .str "just")) rfl
  rwa [show decide (V.str (word r.1) = V.str "just") = decide (r.1 = 1) from by rcases (by omega : r.1 = 0 ∨ r.1 = 1 ∨ r.1 = 2) with e | e | e <;> rw [e] <;> decide] at this
theorem at_int {ts : List Int} {k : Nat} (h : k < ts.length) : atI (ts.map V.int) (k : Int) = some (V.int (ts.getD k 0)) := atI_nat (by
  rw [List.getElem?_map, List.getElem?_eq_getElem h, List.getD_eq_getElem?_getD, List.getElem?_eq_getElem h]
  rfl)
theorem ev_atI {K : PySem.W.Frag} {σ : St} {H : Hp} {ta tb : TE} {p : Addr} {ts : List Int} {i : Int} (k : Nat) (ha : EvE ta σ H (.ref p)) (hb : EvE tb σ H (.int i)) (h : SqL K H p (ts.map V.int)) (hi : i = (k : Int)) (hk : k < ts.length) : EvE (tOp (rIxL K) ta tb) σ H (.int (ts.getD k 0)) := by
  subst hi
  exact ev_ixL ha hb h (at_int hk)
theorem ev_atEnd {K : PySem.W.Frag} {σ : St} {H : Hp} {ta tb : TE} {p : Addr} {ts : List Int} (ha : EvE ta σ H (.ref p)) (hb : EvE tb σ H (.int (-1))) (h : SqL K H p (ts.map V.int)) (hk : ts ≠ []) : EvE (tOp (rIxL K) ta tb) σ H (.int (ts.getD (ts.length - 1) 0)) := by
  obtain ⟨i, l, rfl⟩ : ∃ i l, ts = i ++ [l] := by
    rcases List.eq_nil_or_concat ts with e | ⟨i, l, e⟩
    · exact absurd e hk
    · exact ⟨i, l, by rw [e, List.concat_eq_append]⟩
  refine ev_ixL ha hb h ?_
  have e : (i ++ [l]).getD ((i ++ [l]).length - 1) 0 = l := by simp
  rw [e, List.map_append]
  exact at_end
def spLets (K : PySem.W.Frag) : Sp := fun vs H Q _ => ∃ (pr ph pt : Addr) (r : Row.Rule) (hs : List Nat) (ts : List Int), vs = [.ref pr, .ref ph, .ref pt] ∧ SqT K H pr (ruleV r) ∧ Row.Good r ∧ SqL K H ph (nl hs) ∧ SqL K H pt (ts.map V.int) ∧ ts.length ≤ 1000 ∧ ∀ b, (b = true ↔ Row.Lets r hs ts) → Q (.bl b) H
def spIsRow : Sp := fun vs H Q _ => ∃ (pf pd : Addr) (xs ys : List Nat), vs = [.ref pf, .ref pd] ∧ H pf = some (.lst (nl xs)) ∧ H pd = some (.lst (nl ys)) ∧ ys.length ≤ 1000 ∧ Q (.bl (decide (xs = ys))) H
def spPlaces (K : PySem.W.Frag) : Sp := fun vs H Q _ => ∃ (a : Addr) (ns : List Int) (first wide : Nat), vs = [.ref a, .int (first : Int), .int (wide : Int)] ∧ SqL K H a (ns.map V.int) ∧ (wide = 9 ∨ wide = 40) ∧ ∀ H' p ts, Same H H' → H p = none → H' p = some (.lst (nl ts)) → ts ≠ [] → ts.length ≤ 40 → Q (.ref p) H'
def spSpoilt (K : PySem.W.Frag) : Sp := fun vs H Q _ => ∃ (pt : Addr) (ts : List Int) (way : Int), vs = [.ref pt, .int way] ∧ H pt = some (.lst (ts.map V.int)) ∧ ts ≠ [] ∧ ts.length ≤ 500 ∧ ∀ H' p (us : List Int), Same H H' → H' p = some (.lst (us.map V.int)) → us.length ≤ 1000 → Q (.ref p) H'
end L2
namespace L2
open PySem PySem.Spec PyProof.Rows
theorem lst_of {ts : TA} {σ : St} {H : Hp} {vs : List V} {Q : VK} (ha : EvA ts σ H vs) (hl : vs.length ≤ sizeLine) (q : ∀ p, H p = none → Q (.ref p) (upd H p (.lst vs))) : tLst ts σ H Q := ha _ ⟨hl, q⟩
theorem op_of {r : R2} {ta tb : TE} {σ : St} {H : Hp} {x : V} {Q : VK} (ha : EvE ta σ H x) (hb : tb σ H fun y H2 => r x y H2 Q) : tOp r ta tb σ H Q := ha _ hb
theorem retO_of {t : TE} {D : Ends} {σ : St} {H : Hp} (h : t σ H D.rt) : tRet t D σ H := h
end L2
namespace L2
open PySem PySem.Spec PyProof.Rows
def spAfterC (K : PySem.W.Frag) : Sp := fun vs H Q _ => ∃ (pr ph pt : Addr) (r : Row.Rule) (hs t : List Nat), vs = [.ref pr, .ref ph, .ref pt] ∧ SqT K H pr (ruleV r) ∧ Row.Good r ∧ SqL K H ph (nl hs) ∧ Row.IsRow hs ∧ SqL K H pt (nl t) ∧ t.length ≤ 1000 ∧ (∃ last ∈ hs, t ∈ Row.shapes r last) ∧
  ∀ H' p, Same H H' → H p = none → H' p = some (.lst (nl (Row.behind 40 hs t))) → Q (.ref p) H'
end L2
namespace L2
open PySem PySem.Spec PyProof.Rows
def zd (xs : List Int) : List Dt := xs.map Dt.int
theorem zd_inj {xs ys : List Int} (h : zd xs = zd ys) : xs = ys := by
  induction xs generalizing ys with
  | nil => cases ys with
    | nil => rfl
    | cons y ys => cases h
  | cons x xs ih => cases ys with
    | nil => cases h
    | cons y ys =>
      unfold zd at h ih
      rw [List.map_cons, List.map_cons] at h
      injection h with h1 h2
      injection h1 with h1
      rw [h1, ih h2]
theorem zd_paired {K : PySem.W.Frag} {H : Hp} {n : Nat} : ∀ xs : List Int, Paired (Dat K H n) (zd xs) (xs.map V.int)
  | [] => .nil
  | x :: xs => .cons (Dat.int.mpr rfl) (zd_paired xs)
theorem dat_ints {K : PySem.W.Frag} {H : Hp} {n : Nat} {p : Addr} {xs : List Int} (h : SqL K H p (xs.map V.int)) : Dat K H (n + 1) (.seq false (zd xs)) (.ref p) := ⟨p, _, rfl, by rw [if_neg Bool.false_ne_true]; exact h, zd_paired xs⟩
section
variable {K : PySem.W.Frag} {σ : St} {H : Hp} {ta tb : TE}
theorem ev_isBool {b : Bool} {r : TA} (hr : EvA r σ H [.bl b, .ty "bool"]) : EvE (tCB (fun xs H Q => ∃ x T t b, xs = [x, .ty T] ∧ TyOf K H x t ∧ PySem.W.kitOne K t (.type T) = some b ∧ Q (.bl b) H) r) σ H (.bl true) :=
  fun Q q => hr _ ⟨_, _, _, true, rfl, .bl b, rfl, q⟩
end
end L2
set_option Elab.async false
set_option linter.all false
set_option maxRecDepth 100000
set_option maxHeartbeats 4000000
namespace Row
open Nim
def bess (as bs : List Nat) (lx ly : Nat) : List (Nat × Nat) := (cross as bs).filter fun p => p.1 != lx || p.2 != ly
def besides (rx ry : Rule) (lx ly : Nat) : List Nat := (shapes rx lx).flatMap fun as => (shapes ry ly).map fun bs => xs (num2 rx ry) (bess as bs lx ly)
end Row
namespace L2
open PySem PySem.Spec PyProof.Rows
def tv (tt : List (List Nat)) (p : Nat × Nat) : Nat := Row.at0 (tt.getD p.1 []) p.2
def spBesides (K : PySem.W.Frag) : Sp := fun vs H Q _ => ∃ (pt px py : Addr) (rs : List Addr) (tt : List (List Nat)) (a0 b0 : List Nat) (lx ly : Nat), vs = [.ref pt, .ref px, .ref py] ∧ H pt = some (.lst (rs.map V.ref)) ∧ RL (fun _ => none) H tt rs ∧ SqL K H px (nl (a0 ++ [lx])) ∧ SqL K H py (nl (b0 ++ [ly])) ∧
  (∀ a ∈ a0 ++ [lx], a < tt.length) ∧ (∀ row ∈ tt, ∀ b ∈ b0 ++ [ly], b < row.length) ∧ Q (.int ((Row.xs (tv tt) (Row.bess (a0 ++ [lx]) (b0 ++ [ly]) lx ly) : Nat) : Int)) H
def spBoardNumber (K : PySem.W.Frag) : Sp := fun vs H Q _ => ∃ (px py : Addr) (rx ry : Row.Rule) (x y : Nat), vs = [.ref px, .ref py, .int (x : Int), .int (y : Int)] ∧ SqT K H px (ruleV rx) ∧ SqT K H py (ruleV ry) ∧ Row.Good rx ∧ Row.Good ry ∧ x < 16 ∧ y < 16 ∧ ∀ H', Same H H' → Q (.int ((Row.num2 rx ry (x, y) : Nat) : Int)) H'
end L2
namespace L2
open PySem PySem.Spec PyProof.Rows
def Kp (d : Addr) (G H : Hp) : Prop := ∀ b o, b ≠ d → G b = some o → H b = some o
theorem Kp.refl {d : Addr} {G : Hp} : Kp d G G := fun _ _ _ h => h
theorem Kp.same {d : Addr} {G H H' : Hp} (h : Kp d G H) (s : Same H H') : Kp d G H' := fun b o n e => s _ _ (h b o n e)
theorem Kp.of {d : Addr} {G H : Hp} (s : Same G H) : Kp d G H := fun b o _ e => s _ _ e
theorem Kp.trans {d : Addr} {G H H' : Hp} (h : Kp d G H) (h' : Kp d H H') : Kp d G H' := fun b o n e => h' b o n (h b o n e)
theorem Kp.put {d : Addr} {G H : Hp} {o : HO} (h : Kp d G H) : Kp d G (upd H d o) := fun b u n e => by rw [upd_ne n]; exact h b u n e
theorem Kp.lst {d : Addr} {G H : Hp} {kvs : List (Key × V)} {p : Addr} {xs : List V} (h : Kp d G H) (hd : G d = some (.dK kvs)) (e : G p = some (.lst xs)) : H p = some (.lst xs) := h _ _ (fun z => by rw [z, hd] at e; cases e) e
theorem Kp.tup {K : PySem.W.Frag} {d : Addr} {G H : Hp} {kvs : List (Key × V)} {p : Addr} {xs : List V} (h : Kp d G H) (hd : G d = some (.dK kvs)) (e : SqT K G p xs) : SqT K H p xs := by
  rcases e with (e | ⟨o, e⟩) | e
  · exact .inl (.inl (h _ _ (fun z => by rw [z, hd] at e; cases e) e))
  · exact .inl (.inr ⟨o, h _ _ (fun z => by rw [z, hd] at e; cases e) e⟩)
  · exact .inr e
end L2
namespace L2
end L2
namespace L2
end L2
namespace Row
open Nim
end Row
set_option linter.all false
set_option maxRecDepth 100000
set_option maxHeartbeats 4000000
namespace Row
def chs (e : Nat) : Nat → Nat → List (List Nat)
  | 0, _ => [[]]
  | c + 1, s => (List.range' s (e - s)).flatMap fun f => (chs e c (f + 1)).map fun rest => f :: rest
def endFew (lo k p : Nat) : List (List Nat) := (List.range' lo (k + 1 - lo)).flatMap fun len => (chs p (len - 1) 0).map fun l => l ++ [p]
def endRun (k p : Nat) : List (List Nat) := (List.range (min k (p + 1))).map fun more => List.range' (p - more) (more + 1)
def prt (r : Rule) (last many : Nat) : List (List Nat) :=
  if r.1 = 2 then (if many ≤ last + 1 then [(List.range many).map fun k => last + 1 - many + k] else [])
    else if r.1 = 0 ∨ many = r.2 then
      (if many = 1 then [[last]] else []) ++ (if many = 2 then (List.range last).map fun one => [one, last] else []) ++
      (if many = 3 then (List.range last).flatMap fun one => (List.range' (one + 1) (last - (one + 1))).map fun two => [one, two, last] else [])
    else []
def endsAt (r : Rule) (p : Nat) : List (List Nat) := if r.1 = 2 then endRun r.2 p else endFew (if r.1 = 1 then r.2 else 1) r.2 p
end Row
set_option Elab.async false
set_option linter.all false
set_option maxRecDepth 100000
set_option maxHeartbeats 4000000
namespace L2
open PySem PySem.Spec PyProof.Rows
def atS (kvs : List (Str × V)) (y : Str) : Option V := (kvs.find? fun kv => decide (kv.1 = y)).map (·.2)
def GDic (K : PySem.W.Frag) (Pm : Params) (mg : Str → Option Value) (x : Str) (kvs : List (Str × V)) : Prop :=
  ∃ a es n, mg x = some (.ref a) ∧ K.lookup a = some ⟨.type "dict", none, .dict es n, #[]⟩ ∧ PySem.W.KeysLit Pm es.toList ∧ (a == sysModules) = false ∧
    Paired (fun (kv : Str × V) (e : DictEntry) => (∃ t, e.key = .str kv.1 t) ∧ RelV kv.2 e.val) kvs es.toList
theorem isStrOf_dec (x y : Str) (t : Tok) : Value.isStrOf y (.str x t) = decide (x = y) := by
  first
    | (show (x == y) = decide (x = y); by_cases h : x = y <;> simp [h])
    | (show (y == x) = decide (x = y); by_cases h : x = y <;> simp [h, eq_comm])
theorem find_rel {kvs : List (Str × V)} {l : List DictEntry} (h : Paired (fun (kv : Str × V) (e : DictEntry) => (∃ t, e.key = .str kv.1 t) ∧ RelV kv.2 e.val) kvs l) (y : Str) : RelO (atS kvs y) ((l.find? fun e => Value.isStrOf y e.key).map (·.val)) := by
  induction h with
  | nil => trivial
  | @cons p q ps qs h t ih =>
    obtain ⟨⟨tk, e⟩, r⟩ := h
    unfold atS at ih ⊢
    rw [List.find?_cons, List.find?_cons, e, isStrOf_dec]
    by_cases c : p.1 = y
    · rw [decide_eq_true c]; exact r
    · rw [decide_eq_false c]; exact ih
theorem find_relA {kvs : List (Str × V)} {es : Array DictEntry} (h : Paired (fun (kv : Str × V) (e : DictEntry) => (∃ t, e.key = .str kv.1 t) ∧ RelV kv.2 e.val) kvs es.toList) (y : Str) : RelO (atS kvs y) (findBy Value.isStrOf es y) := by
  obtain ⟨l⟩ := es
  unfold findBy
  rw [List.find?_toArray]
  exact find_rel h y
theorem glob_dic {K : PySem.W.Frag} {Pm : Params} {h : Heap} {mg : Str → Option Value} {x : Str} {a : Addr} {es : Array DictEntry} {n : Nat} {kvs : List (Str × V)} (X : K.In h) (G : h.Ns mainGlobals mg)
    (e : PySem.W.nsIn K mainGlobals x = some (some (.ref a))) (l : K.lookup a = some ⟨.type "dict", none, .dict es n, #[]⟩) (hk : PySem.W.KeysLit Pm es.toList) (hs : (a == sysModules) = false)
    (v : Paired (fun (kv : Str × V) (e : DictEntry) => (∃ t, e.key = .str kv.1 t) ∧ RelV kv.2 e.val) kvs es.toList) : GDic K Pm mg x kvs := ⟨a, es, n, PySem.W.mg_of X G e, l, hk, hs, v⟩
def tKGet (kvs : List (Str × V)) (te : TE) : TE := fun σ H Q => te σ H fun y H1 => ∃ x v, y = .str x ∧ atS kvs x = some v ∧ Q v H1
def tKIn (neg : Bool) (kvs : List (Str × V)) (te : TE) : TE := fun σ H Q => te σ H fun y H1 => ∃ x, y = .str x ∧ Q (.bl ((atS kvs x).isSome != neg)) H1
section
variable {X : Cx} {x : Str} {kvs : List (Str × V)} {i : Expr} {ty : TE} {pos pos' : Pos}
theorem pe_kget (h : GDic X.K X.w.params X.mg x kvs) (hi : PE X i ty) (hs : NoSl i) (hg : Gl X x := by rfl) (hd : (x == ("__debug__" : Str)) = false := by decide) : PE X (.Subscript (.Name x pos) i pos') (tKGet kvs ty) := by
  obtain ⟨a, es, n, hm, hl, hk, hsy, rel⟩ := h
  intro pins s σ H Q I h
  refine subD_of PySem.F.slot_dict_getitem.lookup hs (thn (pe_glob (v := .ref a) hg hm rfl hd pins s σ H (fun x H1 => x = .ref a ∧ H1 = H) I ⟨rfl, rfl⟩) fun u s1 ⟨x1, H1, I1, rx, ex, eH⟩ => ?_)
  subst ex eH
  obtain rfl : u = Value.ref a := rx
  refine thn (hi pins s1 σ _ _ I1 h) fun iv s2 ⟨y, H2, I2, ry, x2, v, ey, lk, q2⟩ => ?_
  subst ey
  obtain ⟨t, rfl⟩ := ry
  have hm := PySem.W.mapOf_K (prog := X.prog) (w := X.w) I2.kIn hl hk
  obtain ⟨w', hw, rw'⟩ := RelO.some_of (v := v) (o := findBy Value.isStrOf es x2) (by rw [← lk]; exact find_relA rel x2)
  exact ⟨hm.typeIs, wpAny_getItem_of (strKind_is X.prog X.w x2 t) hm hw ⟨v, H2, I2.tok _, rw', q2⟩⟩
theorem pc_knotin (h : GDic X.K X.w.params X.mg x kvs) (hi : PE X i ty) (hg : Gl X x := by rfl) (hd : (x == ("__debug__" : Str)) = false := by decide) : PC X .NotIn i (.Name x pos) (tKIn true kvs ty) := by
  obtain ⟨a, es, n, hm, hl, hk, hsy, rel⟩ := h
  intro pins s σ H Q I h
  refine thn (hi pins s σ H _ I h) fun iv s1 ⟨y, H1, I1, ry, x2, ey, q1⟩ => thn (pe_glob (v := .ref a) hg hm rfl hd pins s1 σ H1 (fun x H2 => x = .ref a ∧ H2 = H1) I1 ⟨rfl, rfl⟩) fun u s2 ⟨x1, H2, I2, rx, ex, eH⟩ => ?_
  subst ex eH ey
  obtain rfl : u = Value.ref a := rx
  obtain ⟨t, rfl⟩ := ry
  have hm := PySem.W.mapOf_K (prog := X.prog) (w := X.w) I2.kIn hl hk
  refine wpAny_notIn_of (strKind_is X.prog X.w x2 t) hsy hm ?_
  rw [← (find_relA rel x2).isSome_eq]
  exact ⟨.bl _, _, I2.tok _, rfl, by simpa using q1⟩
theorem paired_of {α β : Type} {F : α → β → Prop} : ∀ {xs : List α} {ys : List β}, xs.length = ys.length → (∀ (i : Nat) x y, xs[i]? = some x → ys[i]? = some y → F x y) → Paired F xs ys
  | [], [], _, _ => .nil
  | [], _ :: _, h, _ => by simp at h
  | _ :: _, [], h, _ => by simp at h
  | x :: xs, y :: ys, h, g => .cons (g 0 x y rfl rfl) (paired_of (by simpa using h) fun i a b ha hb => g (i + 1) a b (by simpa using ha) (by simpa using hb))
end
section
variable {σ : St} {H : Hp} {t : TE} {kvs : List (Str × V)} {x : Str} {v : V}
theorem ev_kget (h : EvE t σ H (.str x)) (e : atS kvs x = some v) : EvE (tKGet kvs t) σ H v := fun Q q => h _ ⟨x, v, rfl, e, q⟩
theorem ev_kin {neg : Bool} (h : EvE t σ H (.str x)) : EvE (tKIn neg kvs t) σ H (.bl ((atS kvs x).isSome != neg)) := fun Q q => h _ ⟨x, rfl, q⟩
theorem ev_isJust {K : PySem.W.Frag} {σ : St} {H : Hp} {n : Nat} {pr : Addr} {r : Row.Rule} (hv : σ[n]? = some (some (.ref pr))) (h : SqT K H pr (ruleV r)) (h2 : r.1 ≤ 2) : EvE (tOp rEq (tOp (rIxT K) (tVar n) (tC (V.int 0))) (tC (V.str "just"))) σ H (.bl (decide (r.1 = 1))) := by
  rw [← word_just h2]
  exact ev_eq (ev_rule0 hv h) ev_c rfl
section
variable {K : PySem.W.Frag} {sp : Sp} {E : XK} {ts : TA} {t : TE} {σ : St} {H : Hp} {vs : List V} {Q : VK} {r : List V → Hp → VK → Prop} {R : It → Hp → Prop}
theorem cb_of (ha : EvA ts σ H vs) (h : r vs H Q) : tCB r ts σ H Q := ha _ h
theorem argE_of {v : V} {Q : List V → Hp → Prop} (ha : EvE t σ H v) (h : ts σ H fun vs H1 => Q (v :: vs) H1) : tCons t ts σ H Q := ha _ h
theorem argO_of {Q : List V → Hp → Prop} (h : t σ H fun v H1 => ts σ H1 fun vs H2 => Q (v :: vs) H2) : tCons t ts σ H Q := h
theorem callO_of (h : ts σ H fun vs H1 => sp (vs ++ []) H1 Q E) : tCall sp [] E ts σ H Q := h
theorem arg1_of {Q : List V → Hp → Prop} (h : t σ H fun v H1 => Q [v] H1) : tCons t tNil σ H Q := h
theorem tup_of (ha : EvA ts σ H vs) (hl : vs.length ≤ sizeLine) (q : ∀ p, H p = none → Q (.ref p) (upd H p (.tup vs))) : tTup ts σ H Q := ha _ ⟨hl, q⟩
theorem asgO_of {D : Ends} {n : Nat} (h : t σ H fun x H1 => D.nx (σ.set n (some x)) H1) : tAsg t (gName n) D σ H := h
theorem ifO_of {D : Ends} {s u : TS} (h : t σ H fun x H1 => ∃ k, x = .bl k ∧ (if k = true then s D σ H1 else u D σ H1)) : tIfS (tTest t) s u D σ H := h
theorem opO_of {r : R2} {tb : TE} (h : t σ H fun x H1 => tb σ H1 fun y H2 => r x y H2 Q) : tOp r t tb σ H Q := h
end
def intAt (k : Nat) (σ : St) : Nat := match σ[k]? with
  | some (some (V.int n)) => n.toNat
  | _ => 0
end
end L2
namespace Row
end Row
set_option Elab.async false
set_option linter.all false
set_option maxRecDepth 100000
set_option maxHeartbeats 4000000
namespace HT
open PySem PyProof.Rows
def lexLe : List Int → List Int → Bool
  | [], _ => true
  | _ :: _, [] => false
  | x :: xs, y :: ys => if x = y then lexLe xs ys else decide (x ≤ y)
theorem lexLe_cons (x y : Int) (xs ys : List Int) : lexLe (x :: xs) (y :: ys) = if x = y then lexLe xs ys else decide (x ≤ y) := rfl
theorem lexLe_nil_nil : lexLe [] [] = true := rfl
theorem lexLe_nil_cons (y : Int) (ys : List Int) : lexLe [] (y :: ys) = true := rfl
theorem lexLe_cons_nil (x : Int) (xs : List Int) : lexLe (x :: xs) [] = false := rfl
theorem rcLe_int (A : Around) (s : Shared) (a : Int) (t : Tok) (c : Int) (u : Tok) (prog : Program) (w : World) (E : Value → Shared → Prop) (Q : Value → Shared → Prop) (h : Q (.bool (decide (a ≤ c))) s) :
    wpAny (model prog w) A (richCompare .LtE (.int a t) (.int c u)) Q E s :=
  (PyProof.Rows.le_int h : wpAny (model prog w) A (compareOp .LtE (.int a t) (.int c u)) Q E s)
section
open PySem.SeqAt
open PySem.AutoSeq1 (wpAny_loadPart')
open PySem.MeetsSeq PySem.MeetsSeq2 PySem.MeetsSeq3
theorem tuple_le_ints (l b : Addr) (items items2 : Array Value) (n n2 : Nat) (dd dd2 : Option Addr) (sl sl2 : Array (Option Value)) (ns ms : List Int) (hi : IntsAre items.toList ns) (hj : IntsAre items2.toList ms) :
    Meets (Builtin.«tuple.__le__» ⟨[.ref l, .ref b], []⟩)
      (fun _ R s => s.heap.get? l = some { cls := .type "tuple", dict := dd, data := .seq items n, slots := sl } ∧ s.heap.get? b = some { cls := .type "tuple", dict := dd2, data := .seq items2 n2, slots := sl2 } ∧
        R (.ok (.ret (.bool (lexLe ns ms)))) s) :=
  .of_wp fun prog w A R s h => by
    obtain ⟨hp, g, d, tk, os⟩ := s; obtain ⟨hl, hb, h⟩ := h
    have f2 := AutoSeq1.sub_tuple_tuple
    have z1 : items.size = ns.length := by rw [← hi.length]; simp
    have z2 : items2.size = ms.length := by rw [← hj.length]; simp
    wp_walk using wpAny_loadPart' hl, wpAny_loadPart' hb, wpAny_forIn_list _ (fun rest b s' => b.1 = none ∧ s' = ⟨hp, g, d, tk, os⟩ ∧ ∃ (vs ws : List Value) (ns' ms' : List Int), rest = vs.zip ws ∧
      IntsAre vs ns' ∧ IntsAre ws ms' ∧ ns'.length + items2.size = ms'.length + items.size ∧ R (.ok (.ret (.bool (lexLe ns' ms')))) ⟨hp, g, d, tk, os⟩) _
    case turn =>
      rintro ⟨y, x⟩ rest b s' ⟨hb', rfl, vs, ws, ns', ms', hz, hvi, hwi, hlen, hR⟩
      cases hvi with
      | nil => rw [List.zip_nil_left] at hz; cases hz
      | cons a t hvi' =>
        cases hwi with
        | nil => rw [List.zip_nil_right] at hz; cases hz
        | cons c u hwi' =>
          rw [List.zip_cons_cons] at hz
          injection hz with hyx hrest
          injection hyx with hy hx
          subst hy hx
          rw [lexLe_cons] at hR
          simp only [List.length_cons] at hlen
          obtain ⟨e, he, hiff⟩ := eqAt_int A.in1 ⟨hp, g, d, tk, os⟩ a t c u
          refine wpAny_bind (he prog w _ _ ?_)
          cases e with
          | true =>
            rw [if_pos (hiff.mp rfl)] at hR
            wp_walk
            exact ⟨rfl, rfl, _, _, _, _, hrest, hvi', hwi', by omega, hR⟩
          | false =>
            rw [if_neg (fun q => absurd (hiff.mpr q) Bool.false_ne_true)] at hR
            have hri := rcLe_int A.in1 ⟨hp, g, d, tk, os⟩ a t c u prog w
            wp_walk using hri
            exact ⟨_, rfl, by simpa using hR⟩
    case fin =>
      rintro ⟨b1, b2⟩ s' ⟨hb', rfl, vs, ws, ns', ms', hz, hvi, hwi, hlen, hR⟩
      simp only at hb'
      subst hb'
      have hv : lexLe ns' ms' = decide (items.size ≤ items2.size) := by
        cases hvi with
        | nil =>
          cases hwi with
          | nil =>
            simp only [List.length_nil] at hlen
            rw [lexLe_nil_nil]
            exact (decide_eq_true (by omega)).symm
          | cons c u hw =>
            simp only [List.length_nil, List.length_cons] at hlen
            rw [lexLe_nil_cons]
            exact (decide_eq_true (by omega)).symm
        | cons a t hv =>
          cases hwi with
          | nil =>
            simp only [List.length_nil, List.length_cons] at hlen
            rw [lexLe_cons_nil]
            exact (decide_eq_false (by omega)).symm
          | cons c u hw =>
            rw [List.zip_cons_cons] at hz
            cases hz
      rw [hv] at hR
      wp_walk
      exact ⟨_, rfl, by simpa [Builtin.Tuple.tupleCompareSizes] using hR⟩
    case h =>
      exact ⟨rfl, rfl, items.toList, items2.toList, ns, ms, rfl, hi, hj, by omega, h⟩
end
section
variable {prog : Program} {w : World} {A : Around} {E : Value → Shared → Prop} {s : Shared}
theorem le_tupInts {l b : Addr} {items items2 : Array Value} {ns ms : List Int} {Q : Value → Shared → Prop} (hl : IsTup s.heap l items) (hb : IsTup s.heap b items2) (hi : IntsAre items.toList ns) (hj : IntsAre items2.toList ms)
    (hu : A.units < cLine) (h : Q (.bool (lexLe ns ms)) s) : wpAny (model prog w) A (compareOp .LtE (.ref l) (.ref b)) Q E s := by
  obtain ⟨⟨cls, dd, data, sl⟩, ho, hc, n, hd⟩ := id hl
  obtain ⟨⟨cls2, dd2, data2, sl2⟩, ho2, hc2, n2, hd2⟩ := id hb
  simp only at hc hd hc2 hd2
  subst hc hd hc2 hd2
  exact richCompare_meets_room (op := .LtE) ⟨_, ho, rfl⟩ ⟨_, ho2, rfl⟩ PySem.F.slot_tuple_le PySem.F.entry_tuple_le (PySem.F.args_tuple_le_2 _ _) (tuple_le_ints l b items items2 n n2 dd dd2 sl sl2 ns ms hi hj)
    ⟨ho, ho2, show Value.bool (lexLe ns ms) ≠ Value.notImplemented ∧ Q (.bool (lexLe ns ms)) s from ⟨(fun x => nomatch x), h⟩⟩ hu
end
end HT
namespace L2
open PySem PySem.Spec PyProof.Rows
section
variable {X : Cx}
def rLeT (K : PySem.W.Frag) : R2 := fun x y H Q => ∃ a b ns ms, x = .ref a ∧ y = .ref b ∧ SqT K H a (ns.map V.int) ∧ SqT K H b (ms.map V.int) ∧ Q (.bl (HT.lexLe ns ms)) H
theorem op_leT (hu : X.A.units < cLine) : OpR X (compareOp .LtE) (rLeT X.K) := by
  intro pins s σ H x y v u Q I rx ry h
  obtain ⟨a, b, ns, ms, rfl, rfl, ha, hb, q⟩ := h
  cases rx
  cases ry
  obtain ⟨its, r1, p1, _⟩ := I.tuple ha
  obtain ⟨its2, r2, p2, _⟩ := I.tuple hb
  have i1 : IntsAre its.toArray.toList ns := intsAre_of r1
  have i2 : IntsAre its2.toArray.toList ms := intsAre_of r2
  exact HT.le_tupInts p1 p2 i1 i2 hu ⟨.bl (HT.lexLe ns ms), H, I, rfl, q⟩
end
end L2
set_option linter.all false
set_option maxRecDepth 100000
set_option maxHeartbeats 4000000
namespace Row
open Nim
def PLt (a b : Nat × Nat) : Prop := a.1 < b.1 ∨ (a.1 = b.1 ∧ a.2 < b.2)
structure IsBoard (ps : List (Nat × Nat)) : Prop where
  sorted : ps.Pairwise PLt
  lt : ∀ p ∈ ps, p.1 < 16 ∧ p.2 < 16
def turns2 (rx ry : Rule) (ps : List (Nat × Nat)) : List (List Nat × List Nat) := ps.flatMap fun p => (shapes rx p.1).flatMap fun as => (shapes ry p.2).map fun bs => (as, bs)
def tsum (rx ry : Rule) (t : List Nat × List Nat) : Nat := nim 4 (xs (num rx) t.1) (xs (num ry) t.2)
def replyOf2 (rx ry : Rule) (ps : List (Nat × Nat)) : Option (List Nat × List Nat) := (turns2 rx ry ps).find? fun t => tsum rx ry t == xs (num2 rx ry) ps
def grid (n : Nat) : List (Nat × Nat) := (List.range n).flatMap fun x => (List.range n).map fun y => (x, y)
theorem mem_grid {n : Nat} {p : Nat × Nat} : p ∈ grid n ↔ p.1 < n ∧ p.2 < n := by
  unfold grid
  rw [List.mem_flatMap]
  constructor
  · rintro ⟨x, hx, h⟩
    obtain ⟨y, hy, rfl⟩ := List.mem_map.mp h
    exact ⟨List.mem_range.mp hx, List.mem_range.mp hy⟩
  · rintro ⟨h1, h2⟩
    exact ⟨p.1, List.mem_range.mpr h1, List.mem_map.mpr ⟨p.2, List.mem_range.mpr h2, rfl⟩⟩
theorem grid_sorted (n : Nat) : (grid n).Pairwise PLt := by
  unfold grid
  rw [List.pairwise_flatMap]
  refine ⟨fun x _ => ?_, ?_⟩
  · rw [List.pairwise_map]
    exact List.Pairwise.imp (fun h => .inr ⟨rfl, h⟩) List.pairwise_lt_range
  · refine List.Pairwise.imp (fun {a b} h p hp q hq => ?_) List.pairwise_lt_range
    obtain ⟨y, _, rfl⟩ := List.mem_map.mp hp
    obtain ⟨z, _, rfl⟩ := List.mem_map.mp hq
    exact .inl h
theorem plt_irrefl (a : Nat × Nat) : ¬ PLt a a := fun h => by rcases h with h | ⟨_, h⟩ <;> omega
theorem plt_trans {a b c : Nat × Nat} (h : PLt a b) (h' : PLt b c) : PLt a c := by
  unfold PLt at *
  omega
theorem plt_nodup {l : List (Nat × Nat)} (h : l.Pairwise PLt) : l.Nodup := List.nodup_iff_pairwise_ne.mpr (List.Pairwise.imp (fun {a b} (h : PLt a b) (e : a = b) => plt_irrefl a (by rw [← e] at h; exact h)) h)
theorem plt_ext : ∀ {l r : List (Nat × Nat)}, l.Pairwise PLt → r.Pairwise PLt → (∀ a, a ∈ l ↔ a ∈ r) → l = r
  | [], [], _, _, _ => rfl
  | [], b :: r, _, _, h => absurd ((h b).mpr List.mem_cons_self) (by simp)
  | a :: l, [], _, _, h => absurd ((h a).mp List.mem_cons_self) (by simp)
  | a :: l, b :: r, h1, h2, h => by
    rw [List.pairwise_cons] at h1 h2
    have e : a = b := by
      rcases List.mem_cons.mp ((h a).mp List.mem_cons_self) with q | q
      · exact q
      · rcases List.mem_cons.mp ((h b).mpr List.mem_cons_self) with q' | q'
        · exact q'.symm
        · exact absurd (plt_trans (h2.1 a q) (h1.1 b q')) (plt_irrefl b)
    subst e
    congr 1
    refine plt_ext h1.2 h2.2 fun c => ?_
    constructor
    · intro hc
      rcases List.mem_cons.mp ((h c).mp (List.mem_cons_of_mem _ hc)) with q | q
      · exact absurd (q ▸ h1.1 c hc) (plt_irrefl a)
      · exact q
    · intro hc
      rcases List.mem_cons.mp ((h c).mpr (List.mem_cons_of_mem _ hc)) with q | q
      · exact absurd (q ▸ h2.1 c hc) (plt_irrefl a)
      · exact q
def behind2 (n : Nat) (ps : List (Nat × Nat)) (t : List Nat × List Nat) : List (Nat × Nat) := (grid n).filter fun p => decide (p ∈ ps) != (decide (p.1 ∈ t.1) && decide (p.2 ∈ t.2))
theorem behind2_board {n : Nat} (hn : n ≤ 16) (ps : List (Nat × Nat)) (t : List Nat × List Nat) : IsBoard (behind2 n ps t) :=
  ⟨List.Pairwise.filter _ (grid_sorted n), fun p hp => by have := mem_grid.mp (List.mem_filter.mp hp).1; omega⟩
theorem cross_sorted {as bs : List Nat} (ha : Sorted as) (hb : Sorted bs) : (cross as bs).Pairwise PLt := by
  unfold cross
  rw [List.pairwise_flatMap]
  refine ⟨fun x _ => ?_, ?_⟩
  · rw [List.pairwise_map]
    exact List.Pairwise.imp (fun h => .inr ⟨rfl, h⟩) hb
  · refine List.Pairwise.imp (fun {a b} h p hp q hq => ?_) ha
    obtain ⟨y, _, rfl⟩ := List.mem_map.mp hp
    obtain ⟨z, _, rfl⟩ := List.mem_map.mp hq
    exact .inl h
theorem mem_cross {as bs : List Nat} {p : Nat × Nat} : p ∈ cross as bs ↔ p.1 ∈ as ∧ p.2 ∈ bs := by
  unfold cross
  rw [List.mem_flatMap]
  constructor
  · rintro ⟨x, hx, h⟩
    obtain ⟨y, hy, rfl⟩ := List.mem_map.mp h
    exact ⟨hx, hy⟩
  · rintro ⟨h1, h2⟩
    exact ⟨p.1, h1, List.mem_map.mpr ⟨p.2, h2, rfl⟩⟩
def weight2 (n : Nat) (ps : List (Nat × Nat)) : Nat := xs (fun p => 2 ^ (n * p.1 + p.2)) ps
end Row
set_option Elab.async false
set_option linter.all false
set_option maxRecDepth 100000
set_option maxHeartbeats 4000000
namespace L2
open PySem PySem.Spec PyProof.Rows
def BL (K : PySem.W.Frag) (H : Hp) (ps : List (Nat × Nat)) (rs : List Addr) : Prop := Paired (fun (p : Nat × Nat) r => SqT K H r [.int (p.1 : Int), .int (p.2 : Int)]) ps rs
theorem BL.length {K : PySem.W.Frag} {H : Hp} {ps : List (Nat × Nat)} {rs : List Addr} (h : BL K H ps rs) : ps.length = rs.length := Paired.length h
theorem BL.same {K : PySem.W.Frag} {H H' : Hp} {ps : List (Nat × Nat)} {rs : List Addr} (h : BL K H ps rs) (s : Same H H') : BL K H' ps rs := Paired.mapP h fun _ _ q => s.tup q
def spBoardValue (K : PySem.W.Frag) : Sp := fun vs H Q _ => ∃ (px py ph : Addr) (rx ry : Row.Rule) (ps : List (Nat × Nat)) (rs : List Addr), vs = [.ref px, .ref py, .ref ph] ∧ SqT K H px (ruleV rx) ∧ SqT K H py (ruleV ry) ∧ Row.Good rx ∧ Row.Good ry ∧
  SqL K H ph (rs.map V.ref) ∧ BL K H ps rs ∧ Row.IsBoard ps ∧ ∀ H', Same H H' → Q (.int ((Row.xs (Row.num2 rx ry) ps : Nat) : Int)) H'
def spBoardReply (K : PySem.W.Frag) : Sp := fun vs H Q _ => ∃ (px py ph : Addr) (rx ry : Row.Rule) (ps : List (Nat × Nat)) (rs : List Addr), vs = [.ref px, .ref py, .ref ph] ∧ SqT K H px (ruleV rx) ∧ SqT K H py (ruleV ry) ∧ Row.Good rx ∧ Row.Good ry ∧
  SqL K H ph (rs.map V.ref) ∧ BL K H ps rs ∧ Row.IsBoard ps ∧
  (Row.replyOf2 rx ry ps = none → ∀ H', Same H H' → Q .non H') ∧
  (∀ t, Row.replyOf2 rx ry ps = some t → ∀ H' p a b, Same H H' → H p = none → H' p = some (.tup [.ref a, .ref b]) → H a = none → H b = none → a ≠ b → H' a = some (.lst (nl t.1)) → H' b = some (.lst (nl t.2)) → Q (.ref p) H')
theorem at_refs2 {α : Type} {F : α → Addr → Prop} {ps : List α} {rs : List Addr} {i : Nat} {x : V} (h : Paired F ps rs) (hx : (rs.map V.ref)[i]? = some x) : ∃ p r, ps[i]? = some p ∧ rs[i]? = some r ∧ x = V.ref r ∧ F p r := by
  rw [List.getElem?_map] at hx
  cases e : rs[i]? with
  | none => rw [e] at hx; cases hx
  | some r =>
    rw [e] at hx
    cases hx
    obtain ⟨p, hp, hF⟩ := paired_get h e
    exact ⟨p, r, hp, rfl, rfl, hF⟩
def TLF (Pr : Addr → Prop) (H : Hp) (f : List Nat → Addr → List V) (xss : List (List Nat)) (ts : List Addr) : Prop :=
  ts.length = xss.length ∧ ∀ (j : Nat) t, ts[j]? = some t → ∃ s a, xss[j]? = some s ∧ H t = some (.tup (f s a)) ∧ H a = some (.lst (nl s)) ∧ Pr a
theorem TLF.keep {Pr : Addr → Prop} {H H' : Hp} {f : List Nat → Addr → List V} {xss : List (List Nat)} {ts : List Addr} (h : TLF Pr H f xss ts) (k1 : ∀ a xs, H a = some (.lst xs) → H' a = some (.lst xs)) (k2 : ∀ a xs, H a = some (.tup xs) → H' a = some (.tup xs)) : TLF Pr H' f xss ts :=
  ⟨h.1, fun j t e => by
    obtain ⟨s, a, h1, h2, h3, h4⟩ := h.2 j t e
    exact ⟨s, a, h1, k2 _ _ h2, k1 _ _ h3, h4⟩⟩
theorem TLF.imp {Pr Pr' : Addr → Prop} {H : Hp} {f : List Nat → Addr → List V} {xss : List (List Nat)} {ts : List Addr} (h : TLF Pr H f xss ts) (g : ∀ a s, H a = some (.lst (nl s)) → Pr a → Pr' a) : TLF Pr' H f xss ts :=
  ⟨h.1, fun j t e => by
    obtain ⟨x, a, h1, h2, h3, h4⟩ := h.2 j t e
    exact ⟨x, a, h1, h2, h3, g a x h3 h4⟩⟩
abbrev TL (Pr : Addr → Prop) (H : Hp) (f : List Nat → Nat) (xss : List (List Nat)) (ts : List Addr) : Prop := TLF Pr H (fun s a => [.ref a, .int ((f s : Nat) : Int)]) xss ts
def pk (a b : Nat) : List Key := [Sum.inl (a : Int), Sum.inl (b : Int)]
structure PKs (kvs : List (List Key × V)) : Prop where
  nd : (kvs.map (·.1)).Nodup
  ok : ∀ kv ∈ kvs, ∃ a b : Nat, a < 32 ∧ b < 32 ∧ kv = (pk a b, V.int ((Nim.nim 4 a b : Nat) : Int))
theorem pk_inj {a b c d : Nat} (h : pk a b = pk c d) : a = c ∧ b = d := by
  unfold pk at h
  injection h with h1 h2
  injection h2 with h2 _
  have h1 : (a : Int) = c := Sum.inl.inj h1
  have h2 : (b : Int) = d := Sum.inl.inj h2
  omega
theorem PKs.nil : PKs [] := ⟨by simp, fun kv h => by simp at h⟩
theorem PKs.len {kvs : List (List Key × V)} (h : PKs kvs) : kvs.length ≤ 1024 := by
  have key : ∀ kv ∈ kvs, ∃ n : Nat, n < 1024 ∧ kv.1 = pk (n / 32) (n % 32) := fun kv hk => by
    obtain ⟨a, b, ha, hb, rfl⟩ := h.ok kv hk
    exact ⟨a * 32 + b, by omega, by rw [show (a * 32 + b) / 32 = a by omega, show (a * 32 + b) % 32 = b by omega]⟩
  have sub : ∀ k ∈ kvs.map (·.1), k ∈ (List.range 1024).map fun n => pk (n / 32) (n % 32) := fun k hk => by
    obtain ⟨kv, hkv, rfl⟩ := List.mem_map.mp hk
    obtain ⟨n, hn, e⟩ := key kv hkv
    exact List.mem_map.mpr ⟨n, List.mem_range.mpr hn, e.symm⟩
  have := List.Nodup.length_le_of_subset h.nd sub
  simpa using this
theorem PKs.get {kvs : List (List Key × V)} (h : PKs kvs) {a b : Nat} {v : V} (e : valV kvs (pk a b) = some v) : v = V.int ((Nim.nim 4 a b : Nat) : Int) := by
  unfold valV at e
  obtain ⟨kv, hf, rfl⟩ := Option.map_eq_some_iff.mp e
  obtain ⟨c, d, _, _, rfl⟩ := h.ok kv (List.mem_of_find?_eq_some hf)
  have z := List.find?_some hf
  have z : pk c d = pk a b := by simpa using z
  obtain ⟨rfl, rfl⟩ := pk_inj z
  rfl
theorem PKs.put {kvs : List (List Key × V)} (h : PKs kvs) {a b : Nat} (ha : a < 32) (hb : b < 32) (e : valV kvs (pk a b) = none) : PKs (putK kvs (pk a b) (V.int ((Nim.nim 4 a b : Nat) : Int))) := by
  rw [putK_new _ e]
  refine ⟨?_, fun kv hk => ?_⟩
  · rw [List.map_append, List.nodup_append]
    refine ⟨h.nd, by simp, fun x hx y hy z => ?_⟩
    have : y = pk a b := by simpa using hy
    subst this
    subst z
    exact valV_not e hx
  · rcases List.mem_append.mp hk with q | q
    · exact h.ok kv q
    · exact ⟨a, b, ha, hb, by simpa using q⟩
def spKept : Sp := fun vs H Q _ => ∃ (d : Addr) (a b : Nat) (kvs : List (List Key × V)), vs = [.ref d, .int (a : Int), .int (b : Int)] ∧ a < 32 ∧ b < 32 ∧ H d = some (.dT kvs) ∧ PKs kvs ∧
  ∀ H' kvs', Kp d H H' → H' d = some (.dT kvs') → PKs kvs' → Q (.int ((Nim.nim 4 a b : Nat) : Int)) H'
def spSums (K : PySem.W.Frag) : Sp := fun vs H Q _ => ∃ (pr : Addr) (r : Row.Rule) (n : Nat), vs = [.ref pr, .int (n : Int)] ∧ SqT K H pr (ruleV r) ∧ Row.Good r ∧ n < 40 ∧
  ∀ H' p ts, Same H H' → H p = none → H' p = some (.lst (ts.map V.ref)) → TL (fun a => H a = none) H' (Row.xs (Row.num r)) (Row.shapes r n) ts → Q (.ref p) H'
def pairsOf (xss yss : List (List Nat)) : List (List Nat × List Nat) := xss.flatMap fun s => yss.map fun u => (s, u)
def spFirstAdd : Sp := fun vs H Q _ => ∃ (g : Nat) (px py d : Addr) (PA PB : Addr → Prop) (f f' : List Nat → Nat) (xss yss : List (List Nat)) (ts us : List Addr) (kvs : List (List Key × V)), vs = [.int (g : Int), .ref px, .ref py, .ref d] ∧
  H px = some (.lst (ts.map V.ref)) ∧ H py = some (.lst (us.map V.ref)) ∧ TL PA H f xss ts ∧ TL PB H f' yss us ∧ (∀ s ∈ xss, f s < 32) ∧ (∀ s ∈ yss, f' s < 32) ∧ H d = some (.dT kvs) ∧ PKs kvs ∧
  ((pairsOf xss yss).find? (fun t => Nim.nim 4 (f t.1) (f' t.2) == g) = none → ∀ H' kvs', Kp d H H' → H' d = some (.dT kvs') → PKs kvs' → Q .non H') ∧
  (∀ t, (pairsOf xss yss).find? (fun t => Nim.nim 4 (f t.1) (f' t.2) == g) = some t → ∀ H' kvs' p a b, Kp d H H' → H' d = some (.dT kvs') → PKs kvs' → H p = none → H' p = some (.tup [.ref a, .ref b]) →
    H a = some (.lst (nl t.1)) → PA a → H b = some (.lst (nl t.2)) → PB b → Q (.ref p) H')
section
variable {K : PySem.W.Frag} {d : Addr} {G H : Hp} {kvs : List (List Key × V)} {p : Addr} {xs : List V}
theorem Kp.free {o : HO} (h : Kp d G H) (hd : H d = some o) (e : H p = none) : G p = none := by
  cases c : G p with
  | none => rfl
  | some u =>
    by_cases z : p = d
    · rw [z, hd] at e; cases e
    · rw [h p u z c] at e; cases e
end
theorem lexLe_plt {p q : Nat × Nat} (h : Row.PLt p q) : HT.lexLe [(q.1 : Int), (q.2 : Int)] [(p.1 : Int), (p.2 : Int)] = false := by
  unfold Row.PLt at h
  simp only [HT.lexLe]
  rcases h with h | ⟨h1, h2⟩
  · rw [if_neg (by omega), decide_eq_false (by omega)]
  · rw [if_pos (by omega), if_neg (by omega), decide_eq_false (by omega)]
end L2
set_option Elab.async false
set_option linter.all false
set_option maxRecDepth 100000
set_option maxHeartbeats 4000000
namespace L2
open PySem PySem.Spec PyProof.Rows
theorem op_inDK {X : Cx} {K : PySem.W.Frag} {n k : Nat} (h : X.K = K) (hr : Room k X.A) (hn : n < 60) : OpR X (compareOp .In) (rInD K n false) := by subst h; exact op_inD hr hn
def pd (p : Nat × Nat) : Dt := .seq true [.int (p.1 : Int), .int (p.2 : Int)]
def bd (ps : List (Nat × Nat)) : List Dt := ps.map pd
theorem pd_inj {p q : Nat × Nat} (h : pd p = pd q) : p = q := by
  unfold pd at h
  injection h with _ h
  injection h with h1 h2
  injection h2 with h2 _
  injection h1 with h1
  injection h2 with h2
  exact Prod.ext (by omega) (by omega)
theorem bd_inj {ps qs : List (Nat × Nat)} (h : bd ps = bd qs) : ps = qs := by
  induction ps generalizing qs with
  | nil =>
    cases qs with
    | nil => rfl
    | cons q qs => cases h
  | cons p ps ih =>
    cases qs with
    | nil => cases h
    | cons q qs =>
      unfold bd at h
      rw [List.map_cons, List.map_cons] at h
      injection h with h1 h2
      rw [pd_inj h1, ih h2]
theorem bd_mem {p : Nat × Nat} {ps : List (Nat × Nat)} : pd p ∈ bd ps ↔ p ∈ ps := by
  unfold bd
  rw [List.mem_map]
  exact ⟨fun ⟨q, hq, e⟩ => pd_inj e ▸ hq, fun h => ⟨p, h, rfl⟩⟩
theorem dat_pair {K : PySem.W.Frag} {H : Hp} {n : Nat} {r : Addr} {p : Nat × Nat} (h : SqT K H r [.int (p.1 : Int), .int (p.2 : Int)]) : Dat K H (n + 1) (pd p) (.ref r) :=
  ⟨r, _, rfl, by rw [if_pos rfl]; exact h, .cons (Dat.int.mpr rfl) (.cons (Dat.int.mpr rfl) .nil)⟩
theorem bd_paired {K : PySem.W.Frag} {H : Hp} {n : Nat} : ∀ {ps : List (Nat × Nat)} {rs : List Addr}, BL K H ps rs → Paired (Dat K H (n + 1)) (bd ps) (rs.map V.ref)
  | _, _, .nil => .nil
  | _, _, .cons h t => .cons (dat_pair h) (bd_paired t)
theorem dat_board {K : PySem.W.Frag} {H : Hp} {n : Nat} {p : Addr} {ps : List (Nat × Nat)} {rs : List Addr} (h : SqL K H p (rs.map V.ref)) (hb : BL K H ps rs) : Dat K H (n + 2) (.seq false (bd ps)) (.ref p) :=
  ⟨p, _, rfl, by rw [if_neg Bool.false_ne_true]; exact h, bd_paired hb⟩
section
variable {K : PySem.W.Frag} {σ : St} {H : Hp} {ta tb : TE}
theorem in_board {neg : Bool} {r ph : Addr} {p : Nat × Nat} {ps : List (Nat × Nat)} {rs : List Addr} {Q : VK} (h : SqT K H r [.int (p.1 : Int), .int (p.2 : Int)]) (hp : SqL K H ph (rs.map V.ref)) (hb : BL K H ps rs) (q : Q (.bl (decide (p ∈ ps) != neg)) H) : rInD K 1 neg (.ref r) (.ref ph) H Q :=
  ⟨pd p, false, bd ps, dat_pair h, dat_board hp hb, fun b hb => by
    have : b = decide (p ∈ ps) := by rw [Bool.eq_iff_iff, hb, bd_mem]; simp
    rw [this]
    cases neg <;> simpa using q⟩
theorem ev_neBd {p p' : Addr} {ps qs : List (Nat × Nat)} {rs ss : List Addr} (ha : EvE ta σ H (.ref p)) (hb : EvE tb σ H (.ref p')) (h : SqL K H p (rs.map V.ref)) (hB : BL K H ps rs) (h' : SqL K H p' (ss.map V.ref)) (hB' : BL K H qs ss) :
    EvE (tOp (rNeD K 1) ta tb) σ H (.bl (!decide (ps = qs))) := fun Q q => ha _ (hb _ ⟨false, bd ps, bd qs, dat_board h hB, dat_board h' hB', fun b hb => by
  have : b = !decide (ps = qs) := by
    rw [Bool.eq_iff_iff, hb]
    simp
    exact ⟨fun h e => h (e ▸ rfl), fun h e => h (bd_inj e)⟩
  rw [this]
  exact q⟩)
end
theorem comp_range_tif {wi : TI} {ix : List Nat} {tc : TT} {te : TE} {σ : St} {H : Hp} {Q : VK} {lo : Int} {n : Nat} (p : Nat → Bool) (f : Nat → List V) (hw : ∀ R : It → Hp → Prop, R (Itr lo n) H → wi σ H R) (hn : n < sizeLine)
    (hc : ∀ (i : Nat) (H' : Hp) (R : Bool → Hp → Prop), i < n → Same H H' → (∀ H'', Same H' H'' → R (p i) H'') → tc (some (.int (lo + i)) :: slots σ ix) H' R)
    (he : ∀ (i : Nat) (H' : Hp) (R : VK), i < n → p i = true → Same H H' → (∀ q, H' q = none → R (.ref q) (upd H' q (.tup (f i)))) → te (some (.int (lo + i)) :: slots σ ix) H' R)
    (q : ∀ acc rs H2, H acc = none → Same H H2 → H2 acc = some (.lst (rs.map V.ref)) → Paired (fun i r => H2 r = some (.tup (f i))) ((List.range n).filter p) rs → Q (.ref acc) H2) : tComp wi ix tc te σ H Q := by
  refine hw _ fun acc hacc => ⟨fun i m H2 => i ≤ n ∧ m = n - i ∧ Same H H2 ∧ ∃ rs, H2 acc = some (.lst (rs.map V.ref)) ∧ Paired (fun i r => H2 r = some (.tup (f i))) ((List.range i).filter p) rs, ⟨n, Nat.zero_le _, by simp, (Same.refl H).new hacc, [], upd_same, .nil⟩, ?_⟩
  rintro i m H2 ⟨hi, rfl, sm, rs, hl2, hr2⟩
  by_cases hlt : i < n
  · refine .inr ⟨hlt, ?_⟩
    rintro x H3 ⟨rfl, rfl⟩
    refine hc i _ _ hlt sm fun H4 s4 => ?_
    have e : (List.range (i + 1)).filter p = (List.range i).filter p ++ if p i = true then [i] else [] := by
      rw [List.range_succ, List.filter_append]
      congr 1
      by_cases c : p i = true <;> simp [c]
    have hl : rs.length ≤ i := by
      rw [← Paired.length hr2]
      refine Nat.le_trans (List.length_filter_le _ _) ?_
      rw [List.length_range]
      exact Nat.le_refl _
    by_cases c : p i = true
    · rw [c, if_pos rfl]
      refine he i _ _ hlt c (sm.trans s4) fun z hz => ?_
      have hl4 := s4 _ _ hl2
      have pa : acc ≠ z := ne_of_none hl4 hz
      refine ⟨rs.map V.ref, by rw [upd_ne pa]; exact hl4, by rw [List.length_map]; omega, n - (i + 1), by omega, hlt, rfl, ((sm.trans s4).new hz).upd hacc, rs ++ [z], by rw [upd_same, List.map_append]; rfl, ?_⟩
      rw [e, if_pos c]
      refine paired_app (Paired.mapP hr2 fun j r hj => ?_) (.cons ?_ .nil)
      · have h4 := s4 _ _ hj
        rw [upd_ne (ne_of h4 hl4 (by intro z; cases z)), upd_ne (ne_of_none h4 hz)]
        exact h4
      · rw [upd_ne (Ne.symm pa), upd_same]
    · rw [if_neg c]
      refine ⟨n - (i + 1), by omega, hlt, rfl, sm.trans s4, rs, s4 _ _ hl2, ?_⟩
      rw [e, if_neg c, List.append_nil]
      exact Paired.mapP hr2 fun j r hj => s4 _ _ hj
  · have e : i = n := by omega
    subst e
    exact .inl ⟨Nat.le_refl _, q acc rs H2 hacc sm hl2 hr2⟩
theorem comp_list_tups {K : PySem.W.Frag} {wi : TI} {ix : List Nat} {te : TE} {σ : St} {H : Hp} {Q : VK} {la : Addr} {xs : List Nat} (f : Nat → List V) (hw : ∀ R : It → Hp → Prop, R (Itl K la) H → wi σ H R) (hl : H la = some (.lst (nl xs))) (hn : xs.length < sizeLine)
    (he : ∀ (y : Nat) (H' : Hp) (R : VK), Same H H' → (∀ q, H' q = none → R (.ref q) (upd H' q (.tup (f y)))) → te (some (.int (y : Int)) :: slots σ ix) H' R)
    (q : ∀ acc rs H2, H acc = none → Same H H2 → H2 acc = some (.lst (rs.map V.ref)) → Paired (fun y r => H2 r = some (.tup (f y))) xs rs → Q (.ref acc) H2) : tComp wi ix tYes te σ H Q := by
  refine hw _ fun acc hacc => ⟨fun i m H2 => i ≤ xs.length ∧ m = xs.length - i ∧ Same H H2 ∧ ∃ rs, H2 acc = some (.lst (rs.map V.ref)) ∧ Paired (fun y r => H2 r = some (.tup (f y))) (xs.take i) rs, ⟨xs.length, Nat.zero_le _, by simp, (Same.refl H).new hacc, [], upd_same, .nil⟩, ?_⟩
  rintro i m H2 ⟨hi, rfl, sm, rs, hl2, hr2⟩
  have hq : SqL K H2 la (nl xs) := .of (sm _ _ hl)
  by_cases hlt : i < xs.length
  · have hi0 : i < (nl xs).length := by rw [nl_length]; exact hlt
    refine .inr ⟨⟨_, (nl xs)[i], hq, List.getElem?_eq_getElem hi0⟩, ?_⟩
    rintro x H3 ⟨rfl, hx⟩
    have hx := hx _ hq
    obtain ⟨y, ey, rfl⟩ := nl_mem hx
    unfold tYes
    dsimp only
    rw [if_pos rfl]
    refine he y _ _ sm fun z hz => ?_
    have pa : acc ≠ z := ne_of_none hl2 hz
    have lr := Paired.length hr2
    rw [List.length_take] at lr
    refine ⟨rs.map V.ref, by rw [upd_ne pa]; exact hl2, by rw [List.length_map]; omega, xs.length - (i + 1), by omega, hlt, rfl, (sm.new hz).upd hacc, rs ++ [z], by rw [upd_same, List.map_append]; rfl, ?_⟩
    rw [List.take_add_one, ey]
    refine paired_app (Paired.mapP hr2 fun j r hj => ?_) (.cons ?_ .nil)
    · rw [upd_ne (ne_of hj hl2 (by intro z; cases z)), upd_ne (ne_of_none hj hz)]
      exact hj
    · rw [upd_ne (Ne.symm pa), upd_same]
  · have e : i = xs.length := by omega
    subst e
    rw [List.take_length] at hr2
    exact .inl ⟨⟨_, hq, by rw [nl_length]; exact Nat.le_refl _⟩, q acc rs H2 hacc sm hl2 hr2⟩
def PL (H : Hp) (ps : List (Nat × Nat)) (rs : List Addr) : Prop := Paired (fun (p : Nat × Nat) r => H r = some (.tup [.int (p.1 : Int), .int (p.2 : Int)])) ps rs
theorem PL.bl {K : PySem.W.Frag} {H : Hp} {ps : List (Nat × Nat)} {rs : List Addr} (h : PL H ps rs) : BL K H ps rs := Paired.mapP h fun _ _ q => .inl (.inl q)
theorem PL.same {H H' : Hp} {ps : List (Nat × Nat)} {rs : List Addr} (h : PL H ps rs) (s : Same H H') : PL H' ps rs := Paired.mapP h fun _ _ q => s _ _ q
theorem PL.length {H : Hp} {ps : List (Nat × Nat)} {rs : List Addr} (h : PL H ps rs) : ps.length = rs.length := Paired.length h
theorem PL.upd {H : Hp} {ps : List (Nat × Nat)} {rs : List Addr} {l : Addr} {xs : List V} {o : HO} (h : PL H ps rs) (hl : H l = some (.lst xs)) : PL (L2.upd H l o) ps rs :=
  Paired.mapP h fun _ _ q => by rw [upd_ne (ne_of q hl (by intro z; cases z))]; exact q
def bits9 (c : Int) (i : Nat) : List Nat := (List.range i).filter fun k => decide (c / 2 ^ k % 2 = 1)
def pl3 (k : Nat) : Nat × Nat := (k / 3, k % 3)
def board3 (c : Int) : List (Nat × Nat) := (bits9 c 9).map pl3
def spBoard3 : Sp := fun vs H Q _ => ∃ c : Int, vs = [.int c] ∧ ∀ H' p rs, Same H H' → H p = none → H' p = some (.lst (rs.map V.ref)) → PL H' (board3 c) rs → Q (.ref p) H'
def WL (H : Hp) (ts : List (List Nat × List Nat)) (rs : List Addr) : Prop := Paired (fun (t : List Nat × List Nat) r => ∃ a b, H r = some (.tup [.ref a, .ref b]) ∧ H a = some (.lst (nl t.1)) ∧ H b = some (.lst (nl t.2))) ts rs
theorem WL.same {H H' : Hp} {ts : List (List Nat × List Nat)} {rs : List Addr} (h : WL H ts rs) (s : Same H H') : WL H' ts rs := Paired.mapP h fun _ _ ⟨a, b, h1, h2, h3⟩ => ⟨a, b, s _ _ h1, s _ _ h2, s _ _ h3⟩
theorem WL.length {H : Hp} {ts : List (List Nat × List Nat)} {rs : List Addr} (h : WL H ts rs) : ts.length = rs.length := Paired.length h
def spTurns2 (K : PySem.W.Frag) : Sp := fun vs H Q _ => ∃ (pl px py ph : Addr) (rx ry : Row.Rule) (ps : List (Nat × Nat)) (rs : List Addr), vs = [.ref pl, .ref ph] ∧ SqL K H pl [.ref px, .ref py] ∧ SqT K H px (ruleV rx) ∧ SqT K H py (ruleV ry) ∧ Row.Good rx ∧ Row.Good ry ∧
  SqL K H ph (rs.map V.ref) ∧ BL K H ps rs ∧ (∀ p ∈ ps, p.1 < 3 ∧ p.2 < 3) ∧ ps.length ≤ 9 ∧ ∀ H' p ws, Same H H' → H p = none → H' p = some (.lst (ws.map V.ref)) → WL H' (Row.turns2 rx ry ps) ws → Q (.ref p) H'
def spBehind2 (K : PySem.W.Frag) (n : Nat) : Sp := fun vs H Q _ => ∃ (ph pt a b : Addr) (ps : List (Nat × Nat)) (rs : List Addr) (t : List Nat × List Nat), vs = [.ref ph, .ref pt] ∧ SqL K H ph (rs.map V.ref) ∧ BL K H ps rs ∧ SqT K H pt [.ref a, .ref b] ∧ SqL K H a (nl t.1) ∧ SqL K H b (nl t.2) ∧
  ∀ H' p ss, Same H H' → H p = none → H' p = some (.lst (ss.map V.ref)) → PL H' (Row.behind2 n ps t) ss → Q (.ref p) H'
def spIsTurn2 : Sp := fun vs H Q _ => ∃ (pt pw a b : Addr) (t : List Nat × List Nat) (ts : List (List Nat × List Nat)) (ws : List Addr), vs = [.ref pt, .ref pw] ∧ H pt = some (.tup [.ref a, .ref b]) ∧ H a = some (.lst (nl t.1)) ∧ H b = some (.lst (nl t.2)) ∧ H pw = some (.lst (ws.map V.ref)) ∧ WL H ts ws ∧ Q (.bl (decide (t ∈ ts))) H
theorem ev_isTup {K : PySem.W.Frag} {σ : St} {H : Hp} {p : Addr} {xs : List V} {r : TA} (hr : EvA r σ H [.ref p, .ty "tuple"]) (h : H p = some (.tup xs)) : EvE (tCB (fun xs H Q => ∃ x T t b, xs = [x, .ty T] ∧ TyOf K H x t ∧ PySem.W.kitOne K t (.type T) = some b ∧ Q (.bl b) H) r) σ H (.bl true) :=
  fun Q q => hr _ ⟨_, _, _, true, rfl, .tup h, rfl, q⟩
theorem ev_lenT {K : PySem.W.Frag} {σ : St} {H : Hp} {p : Addr} {xs : List V} {r : TA} (hr : EvA r σ H [.ref p]) (h : SqT K H p xs) : EvE (tCB (fun xs H Q => ∃ p ys, xs = [.ref p] ∧ (SqL K H p ys ∨ SqT K H p ys) ∧ Q (.int ys.length) H) r) σ H (.int xs.length) :=
  fun Q q => hr _ ⟨p, xs, rfl, .inr h, q⟩
def td (t : List Nat × List Nat) : Dt := .seq true [.seq false (nd t.1), .seq false (nd t.2)]
def rdP (H : Hp) : V → Nat × Nat
  | .ref a => match H a with
    | some (.tup [.int x, .int y]) => (x.toNat, y.toNat)
    | _ => (0, 0)
  | _ => (0, 0)
def wt2At (n k : Nat) (σ : St) (H : Hp) : Nat := match σ[k]? with
  | some (some (.ref a)) => match H a with
    | some (.lst xs) => Row.weight2 n (xs.map (rdP H))
    | _ => 0
  | _ => 0
end L2
namespace Row
end Row
namespace Row
end Row
namespace Row
end Row
namespace L2
def tabOf (xs ys : List Nat) : List (List Nat) := xs.map fun x => ys.map fun y => Nim.nim 4 x y
end L2
set_option Elab.async false
set_option linter.all false
set_option maxRecDepth 100000
set_option maxHeartbeats 4000000
namespace L2
open PySem PySem.Spec PyProof.Rows PySem.W
def krun (lt : Nat → Nat → Bool) {α : Type} : KasT α → α
  | .ret a => a
  | .ask i j k => krun lt (k (lt i j))
def kok (n : Nat) (lt : Nat → Nat → Bool) {α : Type} : KasT α → Bool
  | .ret _ => true
  | .ask i j k => decide (i < n) && decide (j < n) && kok n lt (k (lt i j))
theorem krun_wp {α : Type} {n : Nat} {lt : Nat → Nat → Bool} {cmp : Nat → Nat → (Bool → Shared → Prop) → Shared → Prop} {Ok : Shared → Prop} (hc : ∀ i j C s, i < n → j < n → Ok s → (∀ s', Ok s' → C (lt i j) s') → cmp i j C s) {Q : α → Shared → Prop} :
    ∀ (t : KasT α) (s : Shared), kok n lt t = true → Ok s → (∀ s', Ok s' → Q (krun lt t) s') → t.kasWp cmp Q s
  | .ret a, s, _, o, q => q s o
  | .ask i j k, s, h, o, q => by
    rw [kok, Bool.and_eq_true, Bool.and_eq_true] at h
    exact hc i j _ s (of_decide_eq_true h.1.1) (of_decide_eq_true h.1.2) o fun s' o' => krun_wp hc (k (lt i j)) s' h.2 o' q
def lists (m : Nat) : Nat → List (List Nat)
  | 0 => [[]]
  | n + 1 => (lists m n).flatMap fun l => (List.range m).map fun a => a :: l
def nodupB : List Nat → Bool
  | [] => true
  | a :: l => !l.contains a && nodupB l
def rlt (r : List Nat) (i j : Nat) : Bool := decide (r.getD i 0 < r.getD j 0)
def sortOk (n : Nat) (r : List Nat) : Bool :=
  !nodupB r || (kok n (rlt r) (kas_sort n) && ((krun (rlt r) (kas_sort n)).toList.map (fun i => r.getD i 0) == List.range n) && (krun (rlt r) (kas_sort n)).toList.all fun i => decide (i < n))
def rk (ks : List Nat) (k : Nat) : Nat := ks.countP fun x => decide (x < k)
end L2
set_option Elab.async false
set_option linter.all false
set_option maxRecDepth 100000
set_option maxHeartbeats 4000000
namespace L2
open PySem PySem.Spec PyProof.Rows PySem.W
def TupAt (h : Heap) (p : Nat × Nat) (v : Value) : Prop := ∃ r o k tx ty, v = .ref r ∧ h.get? r = some o ∧ o.cls = .type "tuple" ∧ o.data = .seq #[.int (p.1 : Int) tx, .int (p.2 : Int) ty] k
def SortsTo (ps qs : List (Nat × Nat)) : Prop := qs.Pairwise Row.PLt ∧ ∀ p, p ∈ qs ↔ p ∈ ps
def key16 (p : Nat × Nat) : Nat := p.1 * 16 + p.2
theorem key16_lt {p q : Nat × Nat} (hp : p.2 < 16) (hq : q.2 < 16) : key16 p < key16 q ↔ Row.PLt p q := by
  unfold key16 Row.PLt
  omega
section
variable {prog : Program} {w : World} {A : Around} {E : Value → Shared → Prop} {s : Shared}
theorem lt_pair {p q : Nat × Nat} {x y : Value} {b : Bool} {C : Bool → Shared → Prop} (hb : b = true) (hp : p.2 < 16) (hq : q.2 < 16) (h1 : TupAt s.heap p x) (h2 : TupAt s.heap q y) (h : C (decide (key16 p < key16 q)) s) : wpAny (model prog w) A (keyLt' (tuples' b) x y) C E s := by
  subst hb
  obtain ⟨r1, o1, k1, t1, u1, rfl, g1, _, d1⟩ := h1
  obtain ⟨r2, o2, k2, t2, u2, rfl, g2, _, d2⟩ := h2
  refine kat_lt g1 d1 g2 d2 (kat_cons (wpAny_eqBool_int ?_))
  unfold key16 at h
  by_cases c : (p.1 : Int) = (q.1 : Int)
  · rw [show ((p.1 : Int) == (q.1 : Int)) = true from by simpa using c]
    refine kat_yes (kat_cons (wpAny_eqBool_int ?_))
    by_cases c' : (p.2 : Int) = (q.2 : Int)
    · rw [show ((p.2 : Int) == (q.2 : Int)) = true from by simpa using c']
      refine kat_yes (kat_nil ?_)
      rw [decide_eq_false (by omega)] at h
      exact h
    · rw [show ((p.2 : Int) == (q.2 : Int)) = false from by simpa using c']
      refine kat_no (kat_one _ _ (lt_int ?_))
      show C (decide ((p.2 : Int) < (q.2 : Int))) s
      rw [show decide ((p.2 : Int) < (q.2 : Int)) = decide (p.1 * 16 + p.2 < q.1 * 16 + q.2) from by rw [Bool.eq_iff_iff, decide_eq_true_eq, decide_eq_true_eq]; omega]
      exact h
  · rw [show ((p.1 : Int) == (q.1 : Int)) = false from by simpa using c]
    refine kat_no (oneLt_int ?_)
    rw [show decide ((p.1 : Int) < (q.1 : Int)) = decide (p.1 * 16 + p.2 < q.1 * 16 + q.2) from by rw [Bool.eq_iff_iff, decide_eq_true_eq, decide_eq_true_eq]; omega]
    exact h
theorem katTups_of {h : Heap} : ∀ {ps : List (Nat × Nat)} {vs : List Value}, Paired (TupAt h) ps vs → ∃ fs, KatTups h vs fs ∧ fs.length = vs.length ∧ ∀ v ∈ fs, ∃ i t, v = Value.int i t
  | _, _, .nil => ⟨[], trivial, rfl, fun v h => by cases h⟩
  | _, _, .cons q t => by
    obtain ⟨fs, h1, h2, h3⟩ := katTups_of t
    obtain ⟨r, o, k, tx, ty, rfl, g, c, d⟩ := q
    refine ⟨_ :: fs, KatTups.cons g c d rfl h1, by simp [h2], fun v hv => ?_⟩
    rcases List.mem_cons.mp hv with rfl | hv
    · exact ⟨_, _, rfl⟩
    · exact h3 v hv
end
section
variable {X : Cx}
def rSortP (K : PySem.W.Frag) : List V → Hp → VK → Prop := fun xs H Q => ∃ (p : Addr) (ps : List (Nat × Nat)) (rs : List Addr), xs = [.ref p] ∧ SqL K H p (rs.map V.ref) ∧ BL K H ps rs ∧ (∀ p ∈ ps, p.2 < 16) ∧ ps.Nodup ∧ ps.length ≤ 5 ∧
  ∀ (l : Addr) (qs : List (Nat × Nat)) (ss : List Addr), H l = none → SortsTo ps qs → Paired (fun (q : Nat × Nat) r => SqT K H r [.int (q.1 : Int), .int (q.2 : Int)] ∧ r ∈ rs) qs ss → Q (.ref l) (upd H l (.lst (ss.map V.ref)))
end
end L2
set_option Elab.async false
set_option linter.all false
set_option maxRecDepth 100000
set_option maxHeartbeats 4000000
namespace L2
open PySem PySem.Spec PyProof.Rows PySem.W
def EntAt (h : Heap) (d : Addr) (es : Array DictEntry) (ep : Nat) : Prop := ∃ o, h.get? d = some o ∧ o.ExactDict ∧ o.data = .dict es ep
theorem EntAt.at {h h' : Heap} {d : Addr} {es : Array DictEntry} {ep : Nat} (x : EntAt h d es ep) (k : ∀ o, h.get? d = some o → h'.get? d = some o) : EntAt h' d es ep := let ⟨o, g, r⟩ := x; ⟨o, k o g, r⟩
theorem EntAt.typeIs {s : Shared} {d : Addr} {es : Array DictEntry} {ep : Nat} (x : EntAt s.heap d es ep) : s.TypeIs (.ref d) "dict" := let ⟨o, g, c, _⟩ := x; ⟨o, g, c.1⟩
section
variable {prog : Program} {w : World} {A : Around} {E : Value → Shared → Prop} {s : Shared} {it d : Addr} {es : Array DictEntry} {ep i : Nat}
theorem iter_ent {Q : Value → Shared → Prop} (hd : (d == sysModules) = false) (hm : EntAt s.heap d es ep) (hQ : Q (.ref s.heap.objs.size) { s with heap := s.heap.push { cls := .type "dict_keyiterator", data := .fields #[.ref d, .int 0 0, .int es.size 0, .int ep 0] } }) : wpAny (model prog w) A (pyIter (.ref d)) Q E s := by
  obtain ⟨o, g, c, dt⟩ := id hm
  have T := hm.typeIs
  refine wpAny_pyIter_slot T PySem.F.slot_dict_iter (wpAny_call_entry PySem.F.slot_dict_iter T PySem.F.entry_dict_iter ?_ (PySem.F.args_dict_iter_1 _))
  unfold Builtin.«dict.__iter__» Builtin.Dict.dictSlotNone
  refine wpAny_bind (wpAny_bind (wpAny_notOrdered_dict T (wpAny_pure ?_)))
  unfold Builtin.Dict.showsAll
  refine wpAny_bind (m := Builtin.Dict.addrOf (Value.ref d)) (wpAny_pure ?_)
  rw [if_neg (by rw [hd]; decide)]
  refine wpAny_bind (wpAny_pure (wpAny_bind (wpAny_dictEntries g dt (wpAny_bind (wpAny_dictEpoch g dt ?_)))))
  exact wpAny_bind (wpAny_newObj_type (wpAny_pure ⟨_, rfl, "dict_keyiterator", _, ⟨_, Heap.get?_push_size _ rfl, rfl⟩, PySem.F.slot_dict_keyiterator_next.lookup, hQ⟩))
theorem next_ent {Q : Option Value → Shared → Prop} (hit : s.heap.IsKeyIter it d i es.size ep) (hm : EntAt s.heap d es ep) (hi : i < es.size) (hQ : ∀ h', h'.IsKeyIter it d (i + 1) es.size ep → Heap.SameBut it s.heap h' → Q (some es[i].key) { s with heap := h' }) : wpAny (model prog w) A (pyNext (.ref it)) Q E s := by
  obtain ⟨o, g, c, dt⟩ := id hit
  obtain ⟨o2, g2, c2, dt2⟩ := id hm
  have T := hit.typeIs
  unfold pyNext
  refine wpAny_bind (wpAny_attempt (wpAny_callSpecial?_slot (name := Str.ofString "__next__") T PySem.F.slot_dict_keyiterator_next (wpAny_call_entry PySem.F.slot_dict_keyiterator_next T PySem.F.entry_dict_keyiterator_next ?_ (PySem.F.args_dict_keyiterator_next_1 _))))
  have own : Builtin.Dict_items.ownsTuple "dict_keyiterator" = false := by decide
  refine wpAny_bind (wpAny_pure (wpAny_bind (wpAny_bind ?_)))
  first | refine wpAny_bind (wpAny_typeNameOfWhole_keyiter T (wpAny_pure (wpAny_bind (wpAny_fieldsOf g dt ?_)))) | refine wpAny_bind (wpAny_typeNameOf_keyiter T (wpAny_pure (wpAny_bind (wpAny_fieldsOf g dt ?_))))
  simp only [own, Bool.false_eq_true, if_false]
  refine (show wpAny _ _ (if (Value.ref d == Value.none) = true then _ else _) _ _ s from ?_)
  rw [if_neg (show ¬ (Value.ref d == Value.none) = true from Bool.false_ne_true)]
  refine wpAny_bind (wpAny_pure (wpAny_bind (wpAny_dictEntries g2 dt2 ?_)))
  rw [if_neg (by simp)]
  refine wpAny_bind (wpAny_pure (wpAny_bind (wpAny_dictEpoch g2 dt2 ?_)))
  rw [if_neg (by simp)]
  refine wpAny_pure ?_
  simp only [show ¬ ((i : Int) < 0) by omega, if_false, Int.toNat_natCast, Array.getElem?_eq_getElem hi]
  refine wpAny_bind ?_
  first | refine wpAny_bind (wpAny_typeNameOfWhole_keyiter T (wpAny_pure (wpAny_bind (wpAny_isOneOf_keyiter T ?_)))) | refine wpAny_bind (wpAny_typeNameOf_keyiter T (wpAny_pure (wpAny_bind (wpAny_isOneOf_keyiter T ?_))))
  refine (show wpAny _ _ (setField (.ref it) 1 (rawInt ((i : Int) + 1)) >>= _) _ _ s from wpAny_bind (wpAny_setField g dt (by simp) ?_))
  have it2 : (s.heap.update it (Obj.mapFields (·.setIfInBounds 1 (rawInt ((i : Int) + 1))))).IsKeyIter it d (i + 1) es.size ep := ⟨_, Heap.get?_update_self _ g (Obj.isFreed_of_fields (Obj.data_mapFields dt _)), (Obj.cls_mapFields ..).trans c, by rw [Obj.data_mapFields dt]; simp [rawInt]⟩
  refine wpAny_bind (wpAny_holding (wpAny_bind (wpAny_isOneOf_keyiter (s := { s with heap := s.heap.update it (Obj.mapFields (·.setIfInBounds 1 (rawInt ((i : Int) + 1)))) }) it2.typeIs ?_)))
  exact (show wpAny _ _ (pure es[i].key) _ _ _ from wpAny_pure (wpAny_pure ⟨_, rfl, wpAny_pure (hQ _ it2 (Heap.SameBut.update ..))⟩))
theorem end_ent {Q : Option Value → Shared → Prop} (hh : A.handled = none) (hit : s.heap.IsKeyIter it d es.size es.size ep) (hm : EntAt s.heap d es ep) (hQ : ∀ h', Heap.ExtBut it s.heap h' → Q none { s with heap := h' }) : wpAny (model prog w) A (pyNext (.ref it)) Q E s := by
  obtain ⟨o, g, c, dt⟩ := id hit
  obtain ⟨o2, g2, c2, dt2⟩ := id hm
  have T := hit.typeIs
  unfold pyNext
  refine wpAny_bind (wpAny_attempt (wpAny_callSpecial?_slot (name := Str.ofString "__next__") T PySem.F.slot_dict_keyiterator_next (wpAny_call_entry PySem.F.slot_dict_keyiterator_next T PySem.F.entry_dict_keyiterator_next ?_ (PySem.F.args_dict_keyiterator_next_1 _))))
  have own : Builtin.Dict_items.ownsTuple "dict_keyiterator" = false := by decide
  refine wpAny_bind (wpAny_pure (wpAny_bind (wpAny_bind ?_)))
  first | refine wpAny_bind (wpAny_typeNameOfWhole_keyiter T (wpAny_pure (wpAny_bind (wpAny_fieldsOf g dt ?_)))) | refine wpAny_bind (wpAny_typeNameOf_keyiter T (wpAny_pure (wpAny_bind (wpAny_fieldsOf g dt ?_))))
  simp only [own, Bool.false_eq_true, if_false]
  refine (show wpAny _ _ (if (Value.ref d == Value.none) = true then _ else _) _ _ s from ?_)
  rw [if_neg (show ¬ (Value.ref d == Value.none) = true from Bool.false_ne_true)]
  refine wpAny_bind (wpAny_pure (wpAny_bind (wpAny_dictEntries g2 dt2 ?_)))
  rw [if_neg (by simp)]
  refine wpAny_bind (wpAny_pure (wpAny_bind (wpAny_dictEpoch g2 dt2 ?_)))
  rw [if_neg (by simp)]
  refine wpAny_pure ?_
  simp only [show ¬ ((es.size : Int) < 0) by omega, if_false, Int.toNat_natCast, Array.getElem?_eq_none (Nat.le_refl _)]
  refine wpAny_bind ?_
  first | refine wpAny_bind (wpAny_typeNameOfWhole_keyiter T (wpAny_pure ?_)) | refine wpAny_bind (wpAny_typeNameOf_keyiter T (wpAny_pure ?_))
  refine (show wpAny _ _ (setField (.ref it) 0 .none >>= _) _ _ s from wpAny_bind (wpAny_setField g dt (by simp) ?_))
  refine (show wpAny _ _ (newExc (.type "StopIteration") [] >>= _) _ _ _ from wpAny_bind ?_)
  simp only [newExc, newTuple]
  refine wpAny_bind (wpAny_newObj_type (wpAny_bind (m := firstArgMember _ _) (wpAny_of_eq (a := Value.none) (by first | rfl | (simp only [firstArgMember]; rfl)) (wpAny_newObj_type ?_ (by size_fits)))) (by size_fits))
  simp only [raiseNew]
  apply wpAny_bind
  apply wpAny_handled
  have h1 : A.in1.handled = none := hh
  rw [h1]
  refine wpAny_bind (wpAny_pure (wpAny_throw ?_))
  refine wpAny_bind (wpAny_isInstance (b := true) (T := "StopIteration") ⟨_, Heap.get?_push_size _ rfl, rfl⟩ isSubtype_stop ?_)
  exact wpAny_pure (hQ _ (((Heap.SameBut.update ..).extBut.push _).push _))
end
theorem walks_ent {prog : Program} {w : World} {A : Around} (hh : A.handled = none) (I d : Addr) (hne : d ≠ I) (es : Array DictEntry) (ep : Nat) : Walks prog w A I [I, d] [I] es.size (fun i v => ∃ e, es[i]? = some e ∧ v = e.key) (fun i h => h.IsKeyIter I d i es.size ep ∧ EntAt h d es ep) where
  sub := fun b hb => by
    have : b = I := by simpa using hb
    simp [this]
  frame := fun _ _ _ st k => ⟨st.1.at fun o e => k I (by simp) o e, st.2.at fun o e => k d (by simp) o e⟩
  item := fun i s Q E hi st hQ => next_ent st.1 st.2 hi fun h' i2 sb => hQ _ h' s.toks ⟨es[i], Array.getElem?_eq_getElem hi, rfl⟩ ⟨i2, st.2.at fun o e => sb.extBut d o hne e⟩ fun b o hb e => sb.extBut b o (fun z => hb (by simp [z])) e
  done := fun s Q E st hQ => end_ent hh st.1 st.2 fun h' he => hQ h' s.toks fun b o hb e => he b o (fun z => hb (by simp [z])) e
  self := fun _ _ _ _ st hQ => wpAny_pyIter_keyiter st.1 hQ
theorem src_ent {prog : Program} {w : World} {d : Addr} {es : Array DictEntry} {ep : Nat} (lo : (d == sysModules) = false) : KdlSrc prog w "dict" d d es.size (fun i v => ∃ e, es[i]? = some e ∧ v = e.key) (fun h => EntAt h d es ep) where
  type := fun _ m => m.typeIs
  there := fun _ ⟨_, g, _⟩ => ⟨Heap.lt_size g, Heap.lt_size g⟩
  keep := fun _ _ m k => m.at fun o e => k d (.inl rfl) o e
  notList := by decide
  notTuple := by decide
  hint := fun _ _ _ _ m q => kdl_hint_dict m.typeIs q
  iter := fun _ s hh m => ⟨_, _, fun _ _ hq => iter_ent lo m hq, walks_ent hh _ d (fun z => by obtain ⟨_, g, _⟩ := m; exact absurd (Heap.lt_size g) (by rw [z]; exact Nat.lt_irrefl _)) es ep, ⟨⟨_, Heap.get?_push_size _ rfl, rfl, rfl⟩, m.at fun o e => Heap.get?_push_of_some _ e⟩⟩
section
variable {prog : Program} {w : World} {A : Around} {E : Value → Shared → Prop} {s : Shared}
theorem collect_ent {d : Addr} {es : Array DictEntry} {ep : Nat} {Q : List Value → Shared → Prop} (hh : A.handled = none) (lo : (d == sysModules) = false) (hm : EntAt s.heap d es ep) (hn : es.size ≤ sizeLine)
    (h : ∀ h' tk (vs : List Value), (∀ b o, s.heap.get? b = some o → h'.get? b = some o) → s.heap.objs.size < h'.objs.size → vs.length = es.size → (∀ (i : Nat) v, vs[i]? = some v → ∃ e, es[i]? = some e ∧ v = e.key) → Q vs { s with heap := h', toks := tk }) : wpAny (model prog w) A (collect (.ref d)) Q E s := by
  obtain ⟨o, g, c, dt⟩ := id hm
  have dlt := Heap.lt_size g
  unfold collect
  refine wpAny_bind (wpAny_runValue (codeAny_builtin entry_proto_collect' ?_))
  refine (show wpAny _ _ (do again (.builtin "list.__iadd__" ⟨[← newList [], .ref d], []⟩)) _ _ s from ?_)
  refine wpAny_bind (wpAny_newList (wpAny_pure ⟨Code.quiet_builtin _ (by decide +kernel), codeAny_builtin entry_list_iadd' ?_⟩))
  have dS : s.heap.objs.size ≠ d := fun z => absurd dlt (by rw [← z]; exact Nat.lt_irrefl _)
  refine (show wpAny _ _ (Builtin.List.listExtendWith (.ref s.heap.objs.size) (.ref d) (.ref s.heap.objs.size)) _ _ { s with heap := s.heap.push (seqObj "list" #[] 0) } from ?_)
  rw [Around.under_plainId PySem.F.plain_list_iadd _]
  have fin : ∀ s' : Shared, (∃ h' tk acc c', s' = { s with heap := h', toks := tk } ∧ (∀ b o, b ≠ s.heap.objs.size → (s.heap.push (seqObj "list" #[] 0)).get? b = some o → h'.get? b = some o) ∧ h'.get? s.heap.objs.size = some { cls := .type "list", dict := none, data := .seq acc c', slots := #[] } ∧ ItemsOf (fun i v => ∃ e, es[i]? = some e ∧ v = e.key) acc es.size) → wpAny (model prog w) A (load s.heap.objs.size >>= fun o => match o.data with | .seq xs _ => pure xs.toList | _ => unsupported "internal:collect") Q E s' := by
    rintro s' ⟨h', tk, acc, c', rfl, kp, gS, hI⟩
    exact wpAny_bind (wpAny_load gS (wpAny_pure (h h' tk acc.toList (fun b o e => kp b o (Nat.ne_of_lt (Heap.lt_size e)) (Heap.get?_push_of_some _ e)) (Heap.lt_size gS) (by rw [Array.length_toList]; exact hI.1) fun i v e => hI.2 i v (by rw [← Array.getElem?_toList]; exact e))))
  refine wpAny_mono (kdl_extend (s := { s with heap := s.heap.push (seqObj "list" #[] 0) }) (R := fun r s' => r = .ok (.ret (.ref s.heap.objs.size)) ∧ ∃ h' tk acc c', s' = { s with heap := h', toks := tk } ∧ (∀ b o, b ≠ s.heap.objs.size → (s.heap.push (seqObj "list" #[] 0)).get? b = some o → h'.get? b = some o) ∧ h'.get? s.heap.objs.size = some { cls := .type "list", dict := none, data := .seq acc c', slots := #[] } ∧ ItemsOf (fun i v => ∃ e, es[i]? = some e ∧ v = e.key) acc es.size)
    (src_ent (es := es) (ep := ep) lo) hh (hm.at fun o e => Heap.get?_push_of_some _ e) s.heap.objs.size dS dS (.ref s.heap.objs.size) 0 (Heap.get?_push_size _ rfl) (fun h' tk acc c' kp gS hI => ⟨rfl, h', tk, acc, c', rfl, kp, gS, hI⟩) hn) (fun fi s' hf => ?_) (fun e s' he => by cases he.1)
  cases fi with
  | done f =>
    obtain ⟨e, r⟩ := hf
    cases e
    exact fin s' r
  | again c' =>
    refine ⟨hf.1, codeAny_mono hf.2 fun r s'' hr => ?_⟩
    obtain ⟨e, r⟩ := hr
    cases e
    exact fin s'' r
end
theorem pick_refs {H : Hp} : ∀ {qs : List (Nat × Nat)} {out : List Value}, qs.length = out.length → (∀ (i : Nat) q v, qs[i]? = some q → out[i]? = some v → ∃ b, v = Value.ref b ∧ H b = some (.tup [.int (q.1 : Int), .int (q.2 : Int)])) → ∃ ss : List Addr, Vals (ss.map V.ref) out ∧ PL H qs ss
  | [], [], _, _ => ⟨[], .nil, .nil⟩
  | [], _ :: _, h, _ => by simp at h
  | _ :: _, [], h, _ => by simp at h
  | q :: qs, v :: out, h, g => by
    obtain ⟨ss, h1, h2⟩ := pick_refs (qs := qs) (out := out) (by simpa using h) fun i a b ha hb => g (i + 1) a b (by simpa using ha) (by simpa using hb)
    obtain ⟨b, rfl, hb⟩ := g 0 q v rfl rfl
    exact ⟨b :: ss, .cons rfl h1, .cons hb h2⟩
section
variable {X : Cx}
def rSortD : List V → Hp → VK → Prop := fun xs H Q => ∃ (d : Addr) (kvs : List (List Key × V)) (ps : List (Nat × Nat)), xs = [.ref d] ∧ H d = some (.dT kvs) ∧ kvs.map (·.1) = ps.map (fun p => pk p.1 p.2) ∧ (∀ p ∈ ps, p.2 < 16) ∧ ps.Nodup ∧ ps.length ≤ 5 ∧
  ∀ (l : Addr) (qs : List (Nat × Nat)) (ss : List Addr), H l = none → SortsTo ps qs → PL H qs ss → Q (.ref l) (upd H l (.lst (ss.map V.ref)))
end
end L2
set_option Elab.async false
set_option linter.all false
set_option maxRecDepth 100000
set_option maxHeartbeats 4000000
namespace L2
open PySem PySem.Spec PyProof.Rows
structure CalleeD (P : Program) (w : World) (K : PySem.W.Frag) (mg : Str → Option Value) (base : Heap) (x : Str) (st : Stmt) (CX : CXT) (k : Nat) (ps : List Str) (sp : Sp) : Prop where
  ex : ∃ f fd, Fun K x x st f fd ∧ mg x = some (.ref f) ∧ Binds K fd ps [] ∧ FnOk P w K mg base CX k f fd ps sp
section
variable {P : Program} {w : World} {K : PySem.W.Frag} {mg : Str → Option Value} {base : Heap} {x : Str} {st : Stmt} {N ps : List Str} {n k k2 : Nat} {sp sp2 : Sp}
theorem CalleeD.c (C : CalleeD P w K mg base x st CX0 k ps sp) : Callee P w K mg base x k ps sp := by
  obtain ⟨f, fd, F, hm, hb, R⟩ := C.ex
  exact ⟨f, fd, hm, F.kp, hb, R⟩
end
def rEqB (K : PySem.W.Frag) : R2 := fun x y H Q => ∃ (p p' : Addr) (xs ys : List Bool), x = .ref p ∧ y = .ref p' ∧ SqL K H p (xs.map V.bl) ∧ SqL K H p' (ys.map V.bl) ∧ xs.length = ys.length ∧ ∀ b, (b = true ↔ xs = ys) → Q (.bl b) H
end L2
set_option Elab.async false
set_option linter.all false
set_option maxRecDepth 100000
set_option maxHeartbeats 4000000
namespace L2
open PySem PySem.Spec PyProof.Rows
def GStr (mg : Str → Option Value) (x z : Str) : Prop := ∃ t, mg x = some (.str z t)
def rJoin (K : PySem.W.Frag) : V → List V → Hp → VK → Prop := fun x xs H Q => ∃ (sep : Str) (D : Addr) (ss : List Str), x = .str sep ∧ xs = [.ref D] ∧ SqL K H D (ss.map V.str) ∧ JoinOk sep ss = true ∧ Q (.str (Txt.join sep ss)) H
def rSlS : V → Option Int → Option Int → Hp → VK → Prop := fun x lo hi H Q => ∃ z : Str, x = .str z ∧ z.length ≤ sizeLine ∧ Q (.str (Txt.slice z lo hi)) H
def sgn (z : Str) (i : Nat) : Str := ⟨#[z.cps.getD i 0]⟩
def Ite (z : Str) : It := ⟨fun i _ => i < z.length, fun i H x H' => ∃ p, H p = none ∧ x = .ref p ∧ H' = upd H p (.tup [.int (i : Int), .str (sgn z i)]), fun i _ => z.length ≤ i⟩
def iEnum (ta : TA) : TI := fun σ H R => ta σ H fun vs H1 => ∃ z, vs = [.str z] ∧ R (Ite z) H1
theorem CalleeX.c0 {P : Program} {w : World} {K : PySem.W.Frag} {mg : Str → Option Value} {base : Heap} {x : Str} {k : Nat} {ps : List Str} {sp : Sp} (C : CalleeX P w K mg base x k ps sp) : Callee P w K mg base x k ps (fun vs H Q _ => sp vs H Q E0) := by
  obtain ⟨f, fd, hm, hkp, hb, R⟩ := C.ex
  refine ⟨f, fd, hm, hkp, hb, fun vs H Q E h => R.len vs H Q E0 h, fun A outer s H args us vs Q E hr e0 bt r h => ?_⟩
  refine codeAny_mono (R.run A outer s H args us vs Q E0 hr e0 bt r h) fun res s' q => ?_
  cases res with
  | ok fl => cases fl <;> exact q
  | error e =>
    obtain ⟨_, _, _, _, _, _, z⟩ := q
    exact z.elim
end L2
set_option Elab.async false
set_option linter.all false
set_option maxRecDepth 100000
set_option maxHeartbeats 4000000
namespace ST
open PySem
def Rs (xs : List Nat) : Prop := xs.Pairwise (· < ·)
theorem Rs.get {xs : List Nat} (h : Rs xs) {i j : Nat} (hij : i < j) (hj : j < xs.length) : xs[i]'(by omega) < xs[j] := List.pairwise_iff_getElem.mp h i j (by omega) hj hij
theorem go_spec (xs : Array Nat) (h : Rs xs.toList) (j : Nat) : ∀ (fuel lo hi : Nat), hi - lo ≤ fuel → lo ≤ hi → hi ≤ xs.size → (∀ i (q : i < xs.size), i < lo → xs[i] < j) → (∀ i (q : i < xs.size), hi ≤ i → j ≤ xs[i]) →
    SetTable.below.go xs j fuel lo hi ≤ xs.size ∧ (∀ i (q : i < xs.size), i < SetTable.below.go xs j fuel lo hi → xs[i] < j) ∧ (∀ i (q : i < xs.size), SetTable.below.go xs j fuel lo hi ≤ i → j ≤ xs[i])
  | 0, lo, hi, hf, hl, hs, h1, h2 => by
    have e : lo = hi := by omega
    subst e
    unfold SetTable.below.go
    exact ⟨hs, h1, h2⟩
  | fuel + 1, lo, hi, hf, hl, hs, h1, h2 => by
    unfold SetTable.below.go
    by_cases c : lo < hi
    · rw [if_pos c]
      have hm : (lo + hi) / 2 < xs.size := by omega
      have e : xs.getD ((lo + hi) / 2) j = xs[(lo + hi) / 2] := by
        rw [Array.getD_eq_getD_getElem?, Array.getElem?_eq_getElem hm]
        rfl
      have mono : ∀ a b (qa : a < xs.size) (qb : b < xs.size), a < b → xs[a] < xs[b] := fun a b qa qb hab => by
        have := h.get hab (by simpa using qb)
        simpa using this
      dsimp only
      rw [e]
      by_cases d : xs[(lo + hi) / 2] < j
      · rw [if_pos d]
        refine go_spec xs h j fuel _ hi (by omega) (by omega) hs (fun i q hi' => ?_) h2
        rcases Nat.lt_or_ge i ((lo + hi) / 2) with l | l
        · have := mono _ _ q hm l
          omega
        · have : i = (lo + hi) / 2 := by omega
          subst this
          exact d
      · rw [if_neg d]
        refine go_spec xs h j fuel lo _ (by omega) (by omega) (by omega) h1 (fun i q hi' => ?_)
        rcases Nat.lt_or_ge ((lo + hi) / 2) i with l | l
        · have := mono _ _ hm q l
          omega
        · have : i = (lo + hi) / 2 := by omega
          subst this
          omega
    · rw [if_neg c]
      have e : lo = hi := by omega
      subst e
      exact ⟨hs, h1, h2⟩
theorem below_spec {xs : Array Nat} (h : Rs xs.toList) (j : Nat) : SetTable.below xs j ≤ xs.size ∧ (∀ i (q : i < xs.size), i < SetTable.below xs j → xs[i] < j) ∧ (∀ i (q : i < xs.size), SetTable.below xs j ≤ i → j ≤ xs[i]) := by
  unfold SetTable.below
  exact go_spec xs h j xs.size 0 xs.size (by omega) (Nat.zero_le _) (Nat.le_refl _) (fun i _ z => by omega) (fun i q z => by omega)
theorem below_at {xs : Array Nat} (h : Rs xs.toList) {k : Nat} (hk : k < xs.size) : SetTable.below xs xs[k] = k := by
  obtain ⟨h1, h2, h3⟩ := below_spec h xs[k]
  rcases Nat.lt_trichotomy (SetTable.below xs xs[k]) k with l | l | l
  · have a := h3 _ (by omega) (Nat.le_refl (SetTable.below xs xs[k]))
    have b : xs[SetTable.below xs xs[k]]'(by omega) < xs[k] := by
      have := h.get l (by simpa using hk)
      simpa using this
    omega
  · exact l
  · have := h2 k hk l
    omega
theorem below_next {xs : Array Nat} (h : Rs xs.toList) {k : Nat} (hk : k < xs.size) : SetTable.below xs (xs[k] + 1) = k + 1 := by
  obtain ⟨h1, h2, h3⟩ := below_spec h (xs[k] + 1)
  rcases Nat.lt_trichotomy (SetTable.below xs (xs[k] + 1)) (k + 1) with l | l | l
  · have := h3 k hk (by omega)
    omega
  · exact l
  · have hk1 : k + 1 < xs.size := by omega
    have a := h2 (k + 1) hk1 l
    have b : xs[k] < xs[k + 1] := by
      have := h.get (Nat.lt_succ_self k) (by simpa using hk1)
      simpa using this
    omega
theorem below_zero {xs : Array Nat} (h : Rs xs.toList) : SetTable.below xs 0 = 0 := by
  obtain ⟨h1, h2, h3⟩ := below_spec h 0
  rcases Nat.eq_zero_or_pos (SetTable.below xs 0) with l | l
  · exact l
  · have := h2 0 (by omega) l
    omega
theorem mem_at {xs : Array Nat} (h : Rs xs.toList) {j : Nat} (hj : j ∈ xs.toList) : xs[SetTable.below xs j]? = some j := by
  obtain ⟨k, hk, e⟩ := List.getElem_of_mem hj
  have hk' : k < xs.size := by simpa using hk
  have e' : xs[k] = j := by simpa using e
  have := below_at h hk'
  rw [e'] at this
  rw [this, Array.getElem?_eq_getElem hk', e']
theorem rs_insert {xs : Array Nat} (h : Rs xs.toList) {j : Nat} (hj : j ∉ xs.toList) : Rs (SetTable.insertAt xs (SetTable.below xs j) j).toList := by
  rw [SetTable.toList_insertAt]
  obtain ⟨h1, h2, h3⟩ := below_spec h j
  generalize SetTable.below xs j = r at h1 h2 h3
  unfold Rs at *
  rw [List.pairwise_append]
  have hd : ∀ b ∈ xs.toList.drop r, j < b := fun b hb => by
    obtain ⟨i, hi, e⟩ := List.getElem_of_mem hb
    rw [List.getElem_drop] at e
    have hi' : r + i < xs.size := by rw [List.length_drop] at hi; simp at hi; omega
    have a := h3 (r + i) hi' (by omega)
    have e' : xs[r + i] = b := by simpa using e
    have : b ≠ j := fun z => hj (by rw [← z]; exact List.mem_of_mem_drop hb)
    omega
  have ht : ∀ a ∈ xs.toList.take r, a < j := fun a ha => by
    obtain ⟨i, hi, e⟩ := List.getElem_of_mem ha
    rw [List.getElem_take] at e
    have hi1 : i < r ∧ i < xs.size := by rw [List.length_take] at hi; simp at hi; omega
    have := h2 i hi1.2 hi1.1
    have e' : xs[i]'hi1.2 = a := by simpa using e
    omega
  refine ⟨h.sublist (List.take_sublist _ _), List.pairwise_cons.mpr ⟨hd, h.sublist (List.drop_sublist _ _)⟩, fun a ha b hb => ?_⟩
  have := ht a ha
  rcases List.mem_cons.mp hb with rfl | hb
  · exact this
  · have := hd b hb
    omega
theorem toList_erase {α : Type} (xs : Array α) (p : Nat) : (SetTable.eraseAt xs p).toList = xs.toList.take p ++ xs.toList.drop (p + 1) := by
  simp [SetTable.eraseAt, List.extract_eq_take_drop, List.take_of_length_le]
theorem rs_erase {xs : Array Nat} (h : Rs xs.toList) (p : Nat) : Rs (SetTable.eraseAt xs p).toList := by
  rw [toList_erase]
  unfold Rs at *
  refine h.sublist ?_
  conv => rhs; rw [← List.take_append_drop p xs.toList]
  refine List.Sublist.append (List.Sublist.refl _) ?_
  rw [← List.drop_drop]
  exact List.drop_sublist _ _
structure Tb (t : SetTable) (led : Bool) : Prop where
  led : t.led = led
  ris : Rs t.place.toList
theorem Tb.fresh (f m : Nat) (b : Bool) : Tb (.fresh f m b) b := ⟨rfl, List.Pairwise.nil⟩
theorem laid_tb {mask finger moves : Nat} {led plain : Bool} {hs : Array Int} {t : SetTable} {o : Array Nat} (h : SetTable.laid mask finger moves led plain hs = some (t, o)) : Tb t led ∧ t.mask = mask ∧ t.dummies = #[] ∧ t.plain = plain := by
  unfold SetTable.laid at h
  cases e : SetTable.layClean mask hs with
  | none => rw [e] at h; cases h
  | some owner =>
    rw [e] at h
    have h : some _ = some (t, o) := h
    injection h with h
    injection h with h1 h2
    subst h1
    refine ⟨⟨rfl, ?_⟩, rfl, rfl, rfl⟩
    show Rs (List.map (fun p : Nat × Nat => p.1) _)
    unfold Rs
    rw [List.pairwise_map]
    refine List.Pairwise.filterMap _ ?_ (List.pairwise_lt_range (n := mask + 1))
    intro a a' haa b hb b' hb'
    simp only [Option.mem_def, Option.map_eq_some_iff] at hb hb'
    obtain ⟨_, _, rfl⟩ := hb
    obtain ⟨_, _, rfl⟩ := hb'
    exact haa
theorem not_live {t : SetTable} {j : Nat} (h : Rs t.place.toList) (hs : ∀ i, t.slot j ≠ .live i) : j ∉ t.place.toList := fun hm => by
  refine hs (SetTable.below t.place j) ?_
  unfold SetTable.slot
  dsimp only
  rw [mem_at h hm]
  simp
end ST
set_option Elab.async false
set_option linter.all false
set_option maxRecDepth 100000
set_option maxHeartbeats 4000000
namespace ST
open PySem
def orbL (mask : Nat) : Nat → Nat → Nat → List Nat
  | 0, _, _ => []
  | n + 1, i, p => i :: orbL mask n (SetTable.leap mask i p).1 (SetTable.leap mask i p).2
def orbB (mask : Nat) : Nat → Nat → Nat → Nat → Nat
  | 0, _, _, acc => acc
  | n + 1, i, p, acc => orbB mask n ((i * 5 + 1 + p / 32) % (mask + 1)) (p / 32) (acc ||| 2 ^ i)
theorem orbB_bit {mask : Nat} : ∀ (n i p acc j : Nat), (orbB mask n i p acc).testBit j = true → acc.testBit j = true ∨ j ∈ orbL mask n i p
  | 0, i, p, acc, j, h => .inl h
  | n + 1, i, p, acc, j, h => by
    rcases orbB_bit n _ _ _ j h with h | h
    · rw [Nat.testBit_or, Bool.or_eq_true] at h
      rcases h with h | h
      · exact .inl h
      · rw [Nat.testBit_two_pow] at h
        have := of_decide_eq_true h
        exact .inr (by rw [this]; exact List.mem_cons_self)
    · exact .inr (List.mem_cons_of_mem _ h)
abbrev masks : List Nat := [7, 15, 31, 63, 127, 255]
theorem cov_all : ∀ mask ∈ masks, ∀ h < 40, orbB mask (mask + 15) (h % (mask + 1)) h 0 = 2 ^ (mask + 1) - 1 := by decide +kernel
theorem cov_ok {mask h j : Nat} (hm : mask ∈ masks) (hh : h < 40) (hj : j ≤ mask) : j ∈ orbL mask (SetTable.turns mask) (h % (mask + 1)) h := by
  have e := cov_all mask hm h hh
  rcases orbB_bit (mask + 15) (h % (mask + 1)) h 0 j (by rw [e, Nat.testBit_two_pow_sub_one]; exact decide_eq_true (by omega)) with z | z
  · simp at z
  · exact z
end ST
set_option Elab.async false
set_option linter.all false
set_option maxRecDepth 100000
set_option maxHeartbeats 4000000
namespace ST
open PySem
theorem free_some {mask : Nat} {ow : Array (Option Nat)} : ∀ (fuel i p : Nat) {j : Nat}, SetTable.layClean.free mask ow fuel i p = some j → ow[j]? = some none
  | 0, i, p, j, e => by cases e
  | fuel + 1, i, p, j, e => by
    unfold SetTable.layClean.free at e
    split at e
    · rename_i k hk
      injection e with e
      subst e
      have := List.find?_some hk
      simp only [Array.getD_eq_getD_getElem?] at this
      cases hg : ow[i + k]? with
      | none => rw [hg] at this; cases this
      | some v =>
        rw [hg] at this
        cases v with
        | none => rfl
        | some _ => cases this
    · exact free_some fuel _ _ e
theorem free_none {mask : Nat} {ow : Array (Option Nat)} : ∀ (fuel i p : Nat), SetTable.layClean.free mask ow fuel i p = none → ∀ j ∈ orbL mask fuel i p, ow[j]? ≠ some none
  | 0, i, p, _, j, hj => by cases hj
  | fuel + 1, i, p, e, j, hj => by
    unfold SetTable.layClean.free at e
    split at e
    · cases e
    · rename_i hk
      rcases List.mem_cons.mp hj with rfl | hj
      · intro z
        have := List.find?_eq_none.mp hk 0 (List.mem_range.mpr (by unfold SetTable.runEnd; split <;> omega))
        rw [Nat.add_zero, Array.getD_eq_getD_getElem?, z] at this
        exact this rfl
      · exact free_none fuel _ _ e j hj
structure Own (mask : Nat) (ow : Array (Option Nat)) (js : List Nat) : Prop where
  size : ow.size = mask + 1
  nd : js.Nodup
  le : ∀ j ∈ js, j ≤ mask
  at' : ∀ (j i : Nat), ow[j]? = some (some i) ↔ js[i]? = some j
theorem Own.start (mask : Nat) : Own mask (Array.replicate (mask + 1) none) [] where
  size := by simp
  nd := List.nodup_nil
  le := by simp
  at' := fun j i => by
    constructor
    · intro h
      rw [Array.getElem?_replicate] at h
      split at h
      · cases h
      · cases h
    · intro h
      simp at h
theorem Own.full {mask : Nat} {ow : Array (Option Nat)} {js : List Nat} (O : Own mask ow js) (h : js.length ≤ mask) : ∃ j, j ≤ mask ∧ ow[j]? = some none := by
  apply Classical.byContradiction
  intro hn
  have all : ∀ j, j ≤ mask → j ∈ js := fun j hj => by
    have hs : j < ow.size := by rw [O.size]; omega
    cases e : ow[j] with
    | none => exact absurd ⟨j, hj, by rw [Array.getElem?_eq_getElem hs, e]⟩ hn
    | some i =>
      have := (O.at' j i).mp (by rw [Array.getElem?_eq_getElem hs, e])
      exact List.mem_of_getElem? this
  have p : js.Perm (List.range (mask + 1)) := (List.perm_ext_iff_of_nodup O.nd List.nodup_range).mpr fun a => ⟨fun ha => List.mem_range.mpr (by have := O.le a ha; omega), fun ha => all a (by have := List.mem_range.mp ha; omega)⟩
  have := p.length_eq
  rw [List.length_range] at this
  omega
theorem Own.put {mask : Nat} {ow : Array (Option Nat)} {js : List Nat} (O : Own mask ow js) {j : Nat} (h : ow[j]? = some none) : Own mask (ow.setIfInBounds j (some js.length)) (js ++ [j]) where
  size := by rw [Array.size_setIfInBounds]; exact O.size
  nd := by
    rw [List.nodup_append]
    refine ⟨O.nd, by simp, fun a ha b hb e => ?_⟩
    have hb : b = j := by simpa using hb
    subst hb
    subst e
    obtain ⟨i, hi⟩ := List.getElem?_of_mem ha
    have := (O.at' a i).mpr hi
    rw [h] at this
    cases this
  le := fun a ha => by
    rcases List.mem_append.mp ha with ha | ha
    · exact O.le a ha
    · have : a = j := by simpa using ha
      subst this
      have : a < ow.size := (Array.getElem?_eq_some_iff.mp h).1
      rw [O.size] at this
      omega
  at' := fun a i => by
    have hj : j < ow.size := (Array.getElem?_eq_some_iff.mp h).1
    rw [Array.getElem?_setIfInBounds]
    by_cases e : j = a
    · subst e
      rw [if_pos rfl, if_pos hj]
      constructor
      · intro z
        injection z with z
        injection z with z
        subst z
        rw [List.getElem?_append_right (Nat.le_refl _), Nat.sub_self]
        rfl
      · intro z
        by_cases c : i < js.length
        · rw [List.getElem?_append_left c] at z
          have := (O.at' j i).mpr z
          rw [h] at this
          cases this
        · have c2 : i = js.length := by
            have := (List.getElem?_eq_some_iff.mp z).1
            simp at this
            omega
          rw [c2]
    · rw [if_neg e, O.at' a i]
      by_cases c : i < js.length
      · rw [List.getElem?_append_left c]
      · rw [List.getElem?_eq_none (by omega)]
        constructor
        · intro z; cases z
        · intro z
          have c2 : i = js.length := by
            have := (List.getElem?_eq_some_iff.mp z).1
            simp at this
            omega
          subst c2
          rw [List.getElem?_append_right (Nat.le_refl _), Nat.sub_self] at z
          injection z with z
          exact absurd z e
def stepC (mask : Nat) (acc : Option (Array (Option Nat) × Nat)) (h : Int) : Option (Array (Option Nat) × Nat) := do
  let (owner, k) ← acc
  let j ← SetTable.layClean.free mask owner (SetTable.turns mask) (SetTable.bits h % (mask + 1)) (SetTable.bits h)
  pure (owner.setIfInBounds j (some k), k + 1)
theorem bits_nat {h : Nat} (hh : h < 40) : SetTable.bits (h : Int) = h := by
  unfold SetTable.bits
  have : ((h : Int) % (2 ^ 64 : Int)) = (h : Int) := Int.emod_eq_of_lt (by omega) (by omega)
  rw [this]
  rfl
theorem fold_ok {mask : Nat} (hm : mask ∈ masks) : ∀ (hs : List Int) {ow : Array (Option Nat)} {js : List Nat}, Own mask ow js → (∀ h ∈ hs, ∃ n : Nat, h = (n : Int) ∧ n < 40) → js.length + hs.length ≤ mask + 1 →
    ∃ ow' js', hs.foldl (stepC mask) (some (ow, js.length)) = some (ow', js'.length) ∧ Own mask ow' js' ∧ js'.length = js.length + hs.length
  | [], ow, js, O, _, _ => ⟨ow, js, rfl, O, rfl⟩
  | h :: hs, ow, js, O, hh, hl => by
    obtain ⟨n, rfl, hn⟩ := hh h List.mem_cons_self
    have hl' : js.length + (hs.length + 1) ≤ mask + 1 := hl
    obtain ⟨j0, hj0, e0⟩ := O.full (by omega)
    obtain ⟨j, hj⟩ : ∃ j, SetTable.layClean.free mask ow (SetTable.turns mask) (SetTable.bits (n : Int) % (mask + 1)) (SetTable.bits (n : Int)) = some j := by
      cases e : SetTable.layClean.free mask ow (SetTable.turns mask) (SetTable.bits (n : Int) % (mask + 1)) (SetTable.bits (n : Int)) with
      | some j => exact ⟨j, rfl⟩
      | none =>
        rw [bits_nat hn] at e
        exact absurd e0 (free_none _ _ _ e j0 (cov_ok hm hn hj0))
    have O' := O.put (free_some _ _ _ hj)
    obtain ⟨ow', js', e', O2, l2⟩ := fold_ok hm hs O' (fun h hh' => hh h (List.mem_cons_of_mem _ hh')) (by rw [List.length_append]; show js.length + 1 + hs.length ≤ mask + 1; omega)
    refine ⟨ow', js', ?_, O2, by rw [l2, List.length_append]; show js.length + 1 + hs.length = js.length + (hs.length + 1); omega⟩
    rw [List.foldl_cons, ← e']
    congr 1
    unfold stepC
    rw [List.length_append]
    show (do let j ← SetTable.layClean.free mask ow (SetTable.turns mask) (SetTable.bits (n : Int) % (mask + 1)) (SetTable.bits (n : Int)); pure (ow.setIfInBounds j (some js.length), js.length + 1)) = _
    rw [hj]
    rfl
theorem laid_ok {mask finger moves : Nat} {led plain : Bool} {hs : Array Int} (hm : mask ∈ masks) (hh : ∀ h ∈ hs.toList, ∃ n : Nat, h = (n : Int) ∧ n < 40) (hl : hs.size ≤ mask) :
    ∃ t o, SetTable.laid mask finger moves led plain hs = some (t, o) ∧ o.toList.Perm (List.range hs.size) ∧ t.fits hs.size = true := by
  obtain ⟨ow, js, e, O, l⟩ := fold_ok hm hs.toList (Own.start mask) hh (by simp; omega)
  have l : js.length = hs.size := by simpa using l
  have ec : SetTable.layClean mask hs = some ow := by
    unfold SetTable.layClean
    rw [← Array.foldl_toList]
    have e : hs.toList.foldl (stepC mask) (some (Array.replicate (mask + 1) none, 0)) = some (ow, js.length) := e
    show Option.map _ (hs.toList.foldl (stepC mask) (some (Array.replicate (mask + 1) none, 0))) = _
    rw [e]
    rfl
  unfold SetTable.laid
  rw [ec]
  have key : ∀ j, ow.getD j none = (if h : j < ow.size then ow[j] else none) := fun j => by
    rw [Array.getD_eq_getD_getElem?]
    split
    · rename_i h
      rw [Array.getElem?_eq_getElem h]
      rfl
    · rename_i h
      rw [Array.getElem?_eq_none (by omega)]
      rfl
  have at2 : ∀ j i, ow.getD j none = some i ↔ js[i]? = some j := fun j i => by
    rw [← O.at' j i, Array.getD_eq_getD_getElem?]
    cases ow[j]? with
    | none => simp
    | some v => simp
  have hp : (List.map (fun p : Nat × Nat => p.2) ((List.range (mask + 1)).filterMap fun j => (ow.getD j none).map (j, ·))).Perm (List.range hs.size) := by
    show (List.map (fun p : Nat × Nat => p.2) ((List.range (mask + 1)).filterMap fun j => (ow.getD j none).map (j, ·))).Perm _
    rw [List.map_filterMap]
    have ef : (fun j => Option.map (fun p : Nat × Nat => p.2) ((ow.getD j none).map (j, ·))) = fun j => ow.getD j none := by
      funext j
      cases ow.getD j none <;> rfl
    rw [ef]
    refine (List.perm_ext_iff_of_nodup ?_ List.nodup_range).mpr fun i => ?_
    · refine List.Pairwise.filterMap _ ?_ (List.nodup_range (n := mask + 1))
      intro a a' haa b hb b' hb' e
      subst e
      have h1 := (at2 a b).mp hb
      have h2 := (at2 a' b).mp hb'
      rw [h1] at h2
      injection h2 with h2
      exact haa h2
    · rw [List.mem_filterMap, List.mem_range]
      constructor
      · rintro ⟨j, _, hj⟩
        have := (List.getElem?_eq_some_iff.mp ((at2 j i).mp hj)).1
        omega
      · intro hi
        have hi' : i < js.length := by omega
        refine ⟨js[i], List.mem_range.mpr ?_, (at2 _ i).mpr (List.getElem?_eq_getElem hi')⟩
        have := O.le _ (List.getElem_mem hi')
        omega
  have ln := hp.length_eq
  rw [List.length_map, List.length_range] at ln
  refine ⟨_, _, rfl, hp, ?_⟩
  simp only [SetTable.fits, SetTable.fill, Bool.and_eq_true, beq_iff_eq, decide_eq_true_eq, List.size_toArray, List.length_map]
  constructor
  · exact ln
  · rw [ln]
    exact hl
theorem empty_slot {t : SetTable} (hf : t.fill ≤ t.mask) : ∃ j, j ≤ t.mask ∧ t.slot j = .empty := by
  apply Classical.byContradiction
  intro hn
  have all : ∀ j, j ≤ t.mask → j ∈ t.place.toList ++ t.dummies.toList := fun j hj => by
    cases e : t.slot j with
    | empty => exact absurd ⟨j, hj, e⟩ hn
    | live i =>
      unfold SetTable.slot at e
      dsimp only at e
      split at e
      · rename_i c
        have : t.place[SetTable.below t.place j]? = some j := by simpa using c
        rw [← Array.getElem?_toList] at this
        exact List.mem_append_left _ (List.mem_of_getElem? this)
      · split at e <;> cases e
    | dummy =>
      unfold SetTable.slot at e
      dsimp only at e
      split at e
      · cases e
      · split at e
        · rename_i c
          unfold SetTable.has at c
          have : t.dummies[SetTable.below t.dummies j]? = some j := by simpa using c
          rw [← Array.getElem?_toList] at this
          exact List.mem_append_right _ (List.mem_of_getElem? this)
        · cases e
  have := List.Nodup.length_le_of_subset (List.nodup_range (n := t.mask + 1)) (l₂ := t.place.toList ++ t.dummies.toList) fun j hj => all j (by have := List.mem_range.mp hj; omega)
  rw [List.length_range, List.length_append, Array.length_toList, Array.length_toList] at this
  unfold SetTable.fill at hf
  omega
structure Tp (t : SetTable) : Prop where
  plain : t.plain = true
  mask : t.mask ∈ masks
  room : t.fill * 5 < t.mask * 3
theorem mask_ge {m : Nat} (h : m ∈ masks) : 7 ≤ m := by
  simp only [masks, List.mem_cons, List.not_mem_nil, or_false] at h
  omega
theorem put_fill {t : SetTable} {j : Nat} : ((t.put j).1.fill = if SetTable.has t.dummies j = true then t.place.size + 1 + (t.dummies.size - 1) else t.fill + 1) ∧ (t.put j).1.place.size = t.place.size + 1 := by
  have s1 : ∀ x, (SetTable.insertAt t.place x j).size = t.place.size + 1 := fun x => by
    rw [← Array.length_toList, SetTable.toList_insertAt]
    simp
    omega
  unfold SetTable.put SetTable.fill
  dsimp only
  refine ⟨?_, s1 _⟩
  rw [s1]
  by_cases c : SetTable.has t.dummies j = true
  · rw [if_pos c, if_pos c]
    have hb : SetTable.below t.dummies j < t.dummies.size := by
      unfold SetTable.has at c
      have c : t.dummies[SetTable.below t.dummies j]? = some j := by simpa using c
      exact (Array.getElem?_eq_some_iff.mp c).1
    have s2 : (SetTable.eraseAt t.dummies (SetTable.below t.dummies j)).size = t.dummies.size - 1 := by
      rw [← Array.length_toList, toList_erase]
      simp
      omega
    rw [s2]
  · rw [if_neg c, if_neg c]
    omega
end ST
set_option Elab.async false
set_option linter.all false
set_option maxRecDepth 100000
set_option maxHeartbeats 4000000
namespace L2
open PySem PySem.Spec PyProof.Rows
def byT (w : World) : Bool := w.params.followText "set-order"
def EntI (e : Int × Value) (x : Int) : Prop := e.1 = hashInt x ∧ ∃ t, e.2 = .int x t
structure SI (w : World) (h : Heap) (a : Addr) (xs : List Int) : Prop where
  ex : ∃ o es ep t, h.get? a = some o ∧ o.ExactSet ∧ o.data = .set es ep t ∧ Paired EntI es.toList xs ∧ t.fits es.size = true ∧ ST.Tb t (!byT w) ∧ ST.Tp t
  nd : xs.Nodup
  bd : ∀ y ∈ xs, 0 ≤ y ∧ y < 40
theorem SI.at {w : World} {h h' : Heap} {a : Addr} {xs : List Int} (S : SI w h a xs) (k : ∀ o, h.get? a = some o → h'.get? a = some o) : SI w h' a xs := by
  obtain ⟨o, es, ep, t, g, r⟩ := S.ex
  exact ⟨⟨o, es, ep, t, k o g, r⟩, S.nd, S.bd⟩
theorem len40 {xs : List Int} (nd : xs.Nodup) (bd : ∀ y ∈ xs, 0 ≤ y ∧ y < 40) : xs.length ≤ 40 := by
  have p : xs.Perm ((List.range 40).map (fun n : Nat => (n : Int)) |>.filter (fun y => decide (y ∈ xs))) := (List.perm_ext_iff_of_nodup nd (List.Pairwise.filter _ (by decide))).mpr fun y => by
    rw [List.mem_filter]
    constructor
    · intro h
      have := bd y h
      exact ⟨List.mem_map.mpr ⟨y.toNat, List.mem_range.mpr (by omega), by omega⟩, decide_eq_true h⟩
    · intro h
      exact of_decide_eq_true h.2
  rw [p.length_eq]
  exact Nat.le_trans (List.length_filter_le _ _) (by simp)
section
variable {prog : Program} {w : World} {A : Around} {E : Value → Shared → Prop} {s : Shared} {a : Addr} {xs : List Int}
theorem SI.small (S : SI w s.heap a xs) {es : Array (Int × Value)} (h : Paired EntI es.toList xs) : es.size < scanBound := by
  have l := Paired.length h
  have := len40 S.nd S.bd
  simp at l
  rw [l]
  exact Nat.lt_of_le_of_lt this (by decide)
theorem fits_iff {t : SetTable} {n : Nat} : t.fits n = true ↔ t.place.size = n ∧ t.place.size + t.dummies.size ≤ t.mask := by
  unfold SetTable.fits
  rw [Bool.and_eq_true, beq_iff_eq, decide_eq_true_eq]
  exact Iff.rfl
theorem drop_fits {t : SetTable} {n i : Nat} (h : t.fits n = true) (hi : i < n) : (t.drop i).fits (n - 1) = true := by
  rw [fits_iff] at h
  have hi' : i < t.place.size := by omega
  have sz : ∀ (x : Nat), (SetTable.insertAt t.dummies x (t.place[i])).size = t.dummies.size + 1 := fun x => by
    rw [← Array.length_toList, SetTable.toList_insertAt]
    simp
    omega
  have sz2 : (SetTable.eraseAt t.place i).size = t.place.size - 1 := by
    rw [← Array.length_toList, ST.toList_erase]
    simp
    omega
  unfold SetTable.drop
  rw [Array.getElem?_eq_getElem hi', fits_iff]
  dsimp only
  rw [sz2, sz]
  omega
end
end L2
set_option Elab.async false
set_option linter.all false
set_option maxRecDepth 100000
set_option maxHeartbeats 4000000
namespace L2
open PySem PySem.Spec PyProof.Rows
theorem pick_go {α : Type} (nx : Nat → Nat) : ∀ (fuel k : Nat) (left : List α) (out : Array α), fuel = left.length → (pickOrder.go nx fuel k left out).toList.Perm (out.toList ++ left)
  | 0, k, left, out, h => by
    have e : left = [] := List.length_eq_zero_iff.mp h.symm
    subst e
    unfold pickOrder.go
    simp
  | fuel + 1, k, left, out, h => by
    have hl : nx k % left.length < left.length := Nat.mod_lt _ (by omega)
    unfold pickOrder.go
    rw [List.getElem?_eq_getElem hl]
    dsimp only
    refine (pick_go nx fuel (k + 1) _ _ (by rw [List.length_eraseIdx, if_pos hl]; omega)).trans ?_
    rw [Array.toList_push, List.append_assoc, List.eraseIdx_eq_take_drop_succ]
    refine List.Perm.append_left _ ?_
    show ((left[nx k % left.length]) :: (List.take (nx k % left.length) left ++ List.drop (nx k % left.length + 1) left)).Perm left
    refine List.Perm.trans (l₂ := List.take (nx k % left.length) left ++ left[nx k % left.length] :: List.drop (nx k % left.length + 1) left) List.perm_middle.symm ?_
    rw [← List.drop_eq_getElem_cons hl, List.take_append_drop]
theorem pick_perm {α : Type} (nx : Nat → Nat) (xs : Array α) : (pickOrder nx xs).toList.Perm xs.toList := by
  unfold pickOrder
  have := pick_go nx xs.size 0 xs.toList #[] (by simp)
  simpa using this
section
variable {prog : Program} {w : World} {A : Around} {E : Value → Shared → Prop} {s : Shared} {a f : Addr} {xs zs : List Int}
theorem by_text {Q : Bool → Shared → Prop} (h : Q (byT w) s) : wpAny (model prog w) A setsByText Q E s := by
  unfold setsByText
  exact wpAny_bind (wpAny_askSetting (wpAny_pure h))
theorem si_walk {o : Obj} {es : Array (Int × Value)} {ep : Nat} {t : SetTable} {Q : Array (Int × Value) → Shared → Prop} (ho : s.heap.get? a = some o) (hd : o.data = .set es ep t) (hf : t.fits es.size = true) (htb : ST.Tb t (!byT w)) (hp : byT w = true ∨ t.plain = true ∨ es.size ≤ 1)
    (h : ∀ es', es'.toList.Perm es.toList → Q es' s) : wpAny (model prog w) A (setWalk a) Q E s := by
  unfold setWalk
  refine wpAny_bind (wpAny_setState_of ho hd hf ?_)
  dsimp only
  refine wpAny_bind (by_text ?_)
  cases hb : byT w with
  | true =>
    rw [if_pos rfl]
    exact wpAny_bind (wpAny_askSetting (wpAny_pure (h _ (pick_perm _ _))))
  | false =>
    rw [if_neg (by decide)]
    have hl : t.led = true := by rw [htb.led, hb]; rfl
    have hdr : (!t.plain && decide (es.size > 1)) = false := by
      rcases hp with z | z | z
      · rw [hb] at z; cases z
      · rw [z]; rfl
      · rw [decide_eq_false (by omega), Bool.and_false]
    refine (show wpAny _ _ (if (!t.plain && decide (es.size > 1)) = true then _ else _) _ _ s from ?_)
    rw [if_neg (by rw [hdr]; decide)]
    refine (show wpAny _ _ ((if (!t.led && decide (es.size > 1)) = true then unsupported "set:maker-not-led" else pure ()) >>= fun _ => pure es) _ _ s from ?_)
    rw [hl]
    exact wpAny_bind (wpAny_pure (wpAny_pure (h es (.refl _))))
end
end L2
set_option Elab.async false
set_option linter.all false
set_option maxRecDepth 100000
set_option maxHeartbeats 4000000
namespace L2
open PySem PySem.Spec PyProof.Rows
section
variable {prog : Program} {w : World} {A : Around} {E : Value → Shared → Prop} {s : Shared} {a r : Addr} {xs : List Int}
structure Em (w : World) (h : Heap) (r : Addr) (m : Nat) : Prop where
  ex : ∃ o ep t, h.get? r = some o ∧ o.ExactSet ∧ o.data = .set #[] ep t ∧ t.mask = m ∧ t.place = #[] ∧ t.dummies = #[] ∧ t.led = (!byT w) ∧ t.plain = true ∧ m ∈ ST.masks
theorem Em.fits {t : SetTable} (h1 : t.place = #[]) (h2 : t.dummies = #[]) : t.fits (#[] : Array (Int × Value)).size = true := by
  rw [fits_iff, h1, h2]
  exact ⟨rfl, Nat.zero_le _⟩
end
end L2
set_option Elab.async false
set_option linter.all false
set_option maxRecDepth 100000
set_option maxHeartbeats 4000000
namespace L2
open PySem PySem.Spec PyProof.Rows
section
variable {prog : Program} {w : World} {A : Around} {E : Value → Shared → Prop} {s : Shared} {a b r : Addr} {xs ys : List Int}
theorem SI.typeIs (S : SI w s.heap a xs) : s.TypeIs (.ref a) "set" := by
  obtain ⟨o, _, _, _, ho, hex, _⟩ := S.ex
  exact ⟨o, ho, hex.1⟩
theorem si_epoch {o : Obj} {es : Array (Int × Value)} {ep : Nat} {t : SetTable} {Q : Nat → Shared → Prop} (ho : s.heap.get? a = some o) (hd : o.data = .set es ep t) (hf : t.fits es.size = true) (h : Q ep s) : wpAny (model prog w) A (setEpoch a) Q E s := wpAny_setEpoch_of ho hd hf h
theorem sub_set : isSubtype (.type "set") (.type "set") = pure true := by rw [isSubtype_type]; kernel_rfl
theorem any_set {Q : Bool → Shared → Prop} (hT : s.TypeIs (.ref a) "set") (h : Q true s) : wpAny (model prog w) A (Builtin.Frozenset.isAnySet (.ref a)) Q E s := by
  unfold Builtin.Frozenset.isAnySet
  refine (show wpAny _ _ (isInstance (.ref a) (.type "set") >>= _) _ _ s from wpAny_bind (wpAny_isInstance hT sub_set ?_))
  exact wpAny_pure h
theorem base_set {Q : Value → Shared → Prop} (hT : s.TypeIs (.ref a) "set") (h : Q (.type "set") s) : wpAny (model prog w) A (Builtin.Frozenset.baseOf a) Q E s := by
  unfold Builtin.Frozenset.baseOf
  refine wpAny_bind (wpAny_isInstance hT sub_set ?_)
  exact wpAny_pure h
theorem new_set {Q : Value → Shared → Prop} (h : ∀ h', (∀ c o, s.heap.get? c = some o → h'.get? c = some o) → h'.objs.size = s.heap.objs.size + 1 → Em w h' s.heap.objs.size 7 → Q (.ref s.heap.objs.size) { s with heap := h' }) : wpAny (model prog w) A (newSet (.type "set")) Q E s := by
  unfold newSet setsByText
  refine wpAny_bind (wpAny_bind (wpAny_askSetting (wpAny_pure ?_)))
  dsimp only
  simp only [newObj]
  exact wpAny_bind (wpAny_alloc (wpAny_pure (h _ (fun c o e => Heap.get?_push_of_some _ e) (Heap.size_push ..) ⟨_, 0, _, Heap.get?_push_size _ rfl, ⟨rfl, rfl, rfl⟩, rfl, rfl, rfl, rfl, rfl, rfl, by decide⟩)))
end
end L2
set_option Elab.async false
set_option linter.all false
set_option maxRecDepth 100000
set_option maxHeartbeats 4000000
namespace L2
open PySem PySem.Spec PyProof.Rows
theorem entry_set_xor : entryFor table "set.__xor__" = some Builtin.«frozenset.__xor__» :=
  entryFor_alias (id' := "frozenset.__xor__") (by kernel_rfl) rfl (by decide +kernel) (by kernel_rfl)
section
variable {prog : Program} {w : World} {A : Around} {E : Value → Shared → Prop} {s : Shared} {a b : Addr} {xs ys : List Int}
end
end L2
set_option Elab.async false
set_option linter.all false
set_option maxRecDepth 100000
set_option maxHeartbeats 4000000
namespace L2
open PySem PySem.Spec PyProof.Rows
section
variable {prog : Program} {w : World} {A : Around} {E : Value → Shared → Prop} {s : Shared}
def nset (w : World) : Obj := { cls := .type "set", dict := none, data := .set #[] 0 (.fresh 0 0 (!byT w)) }
theorem set_new1 (v : Value) {Q₁ : Value → Shared → Prop} (h : Q₁ (.ref s.heap.objs.size) { s with heap := s.heap.push (nset w) }) : codeAny (model prog w) A (.call (.builtin "set.__new__") ⟨[.type "set", v], []⟩) (wants Q₁ E) s := by
  refine codeAny_of_tree ?_
  refine (show wpAny _ A.in1 (do checkBuiltinCall "set.__new__" ⟨[.type "set", v], []⟩; again (.builtin "set.__new__" ⟨[.type "set", v], []⟩)) _ _ s from ?_)
  refine wpAny_bind (wpAny_of_eq (PySem.F.newCall_set_1 v) (wpAny_pure ⟨plainId_quiet PySem.F.plain_set_new _, codeAny_builtin PySem.F.entry_set_new ?_⟩))
  rw [Around.under_plainId PySem.F.plain_set_new _]
  unfold Builtin.«set.__new__» Builtin.Frozenset.newClass
  have hsub := sub_set
  obtain ⟨hp, g, d, tk, os⟩ := s
  dsimp only
  wp_walk
  refine wpAny_askSetting (wpAny_pure ?_)
  dsimp only
  simp only [newObj]
  exact wpAny_bind (wpAny_alloc (wpAny_pure (wpAny_pure h)))
end
end L2
set_option Elab.async false
set_option linter.all false
set_option maxRecDepth 100000
set_option maxHeartbeats 4000000
namespace L2
open PySem PySem.Spec PyProof.Rows PySem.W
theorem slot_si_next : Slot "set_iterator" "__next__" "set_iterator.__next__" :=
  .of (owner := "set_iterator") (n := "__next__") (by rw [typeLookup_type, builtinLookup_eq_fast]; kernel_rfl) (by decide +kernel) (by decide +kernel) (by decide +kernel)
    (by first | exact .inl (by decide +kernel) | exact .inr (by decide +kernel)) (by rw [isSubtype_type]; kernel_rfl)
theorem slot_si_iter : Slot "set_iterator" "__iter__" "set_iterator.__iter__" :=
  .of (owner := "set_iterator") (n := "__iter__") (by rw [typeLookup_type, builtinLookup_eq_fast]; kernel_rfl) (by decide +kernel) (by decide +kernel) (by decide +kernel)
    (by first | exact .inl (by decide +kernel) | exact .inr (by decide +kernel)) (by rw [isSubtype_type]; kernel_rfl)
theorem entry_si_next : entryFor table "set_iterator.__next__" = some Builtin.«set_iterator.__next__» := entryFor_of_tree (by kernel_rfl)
theorem entry_si_iter : entryFor table "set_iterator.__iter__" = some Builtin.«dict_keyiterator.__iter__» :=
  entryFor_alias (id' := "dict_keyiterator.__iter__") (by kernel_rfl) rfl (by decide +kernel) (by kernel_rfl)
theorem entry_set_it : entryFor table "set.__iter__" = some Builtin.«frozenset.__iter__» :=
  entryFor_alias (id' := "frozenset.__iter__") (by kernel_rfl) rfl (by decide +kernel) (by kernel_rfl)
theorem owner_si : Manifest.owners.lookup (String.ofList ['r', 'o', 't', 'a', 'r', 'e', 't', 'i', '_', 't', 'e', 's'].reverse) = some Manifest.sig_set_iterator := by kernel_rfl
theorem args_si_next (a : Value) : argsOk "set_iterator.__next__" ⟨[a], []⟩ := by
  unfold argsOk; rw [signature?_of (id := "set_iterator.__next__") (n := ['_', '_', 't', 'x', 'e', 'n', '_', '_']) (o := ['r', 'o', 't', 'a', 'r', 'e', 't', 'i', '_', 't', 'e', 's']) (by kernel_rfl) owner_si]; kernel_rfl
theorem args_si_iter (a : Value) : argsOk "set_iterator.__iter__" ⟨[a], []⟩ := by
  unfold argsOk; rw [signature?_of (id := "set_iterator.__iter__") (n := ['_', '_', 'r', 'e', 't', 'i', '_', '_']) (o := ['r', 'o', 't', 'a', 'r', 'e', 't', 'i', '_', 't', 'e', 's']) (by kernel_rfl) owner_si]; kernel_rfl
def SetAt (h : Heap) (d : Addr) (es : Array (Int × Value)) (ep : Nat) (t : SetTable) : Prop := ∃ o, h.get? d = some o ∧ o.ExactSet ∧ o.data = .set es ep t
theorem SetAt.at {h h' : Heap} {d : Addr} {es : Array (Int × Value)} {ep : Nat} {t : SetTable} (x : SetAt h d es ep t) (k : ∀ o, h.get? d = some o → h'.get? d = some o) : SetAt h' d es ep t := let ⟨o, g, r⟩ := x; ⟨o, k o g, r⟩
theorem SetAt.typeIs {s : Shared} {d : Addr} {es : Array (Int × Value)} {ep : Nat} {t : SetTable} (x : SetAt s.heap d es ep t) : s.TypeIs (.ref d) "set" := let ⟨o, g, c, _⟩ := x; ⟨o, g, c.1⟩
structure SetIt (h : Heap) (it d : Addr) (slot i n ep : Nat) : Prop where
  ex : ∃ o, h.get? it = some o ∧ o.cls = .type "set_iterator" ∧ o.data = .fields #[.int (slot : Int) 0, .int (i : Int) 0, .ref d, .int (n : Int) 0, .int (ep : Int) 0]
theorem SetIt.typeIs {s : Shared} {it d : Addr} {slot i n ep : Nat} (x : SetIt s.heap it d slot i n ep) : s.TypeIs (.ref it) "set_iterator" := let ⟨o, g, c, _⟩ := x.ex; ⟨o, g, c⟩
theorem SetIt.at {h h' : Heap} {it d : Addr} {slot i n ep : Nat} (x : SetIt h it d slot i n ep) (k : ∀ o, h.get? it = some o → h'.get? it = some o) : SetIt h' it d slot i n ep := let ⟨o, g, r⟩ := x.ex; ⟨o, k o g, r⟩
def ordr (w : World) (d : Addr) (es : Array (Int × Value)) (ep : Nat) : Array (Int × Value) := if byT w = true then pickOrder (w.params.setOrder d ep) es else es
def slotAt (w : World) (t : SetTable) : Nat → Nat
  | 0 => 0
  | i + 1 => if byT w = true then 0 else t.place.getD i 0 + 1
theorem slotAt_succ {w : World} {t : SetTable} {i : Nat} : slotAt w t (i + 1) = if byT w = true then 0 else t.place.getD i 0 + 1 := rfl
theorem ordr_perm {w : World} {d : Addr} {es : Array (Int × Value)} {ep : Nat} : (ordr w d es ep).toList.Perm es.toList := by
  unfold ordr
  split
  · exact pick_perm _ _
  · exact .refl _
theorem ordr_size {w : World} {d : Addr} {es : Array (Int × Value)} {ep : Nat} : (ordr w d es ep).size = es.size := by
  have := (ordr_perm (w := w) (d := d) (es := es) (ep := ep)).length_eq
  simpa using this
section
variable {prog : Program} {w : World} {A : Around} {E : Value → Shared → Prop} {s : Shared} {it d : Addr} {es : Array (Int × Value)} {ep i : Nat} {t : SetTable}
theorem walk_text {Q : Array (Int × Value) → Shared → Prop} (hm : SetAt s.heap d es ep t) (hf : t.fits es.size = true) (hb : byT w = true) (h : Q (pickOrder (w.params.setOrder d ep) es) s) : wpAny (model prog w) A (setWalk d) Q E s := by
  obtain ⟨o, g, c, dt⟩ := hm
  unfold setWalk
  refine wpAny_bind (wpAny_setState_of g dt hf ?_)
  dsimp only
  refine wpAny_bind (by_text ?_)
  rw [if_pos hb]
  exact wpAny_bind (wpAny_askSetting (wpAny_pure h))
theorem below_slot (hb : byT w = false) (htb : ST.Tb t (!byT w)) (hi : i ≤ t.place.size) : SetTable.below t.place (slotAt w t i) = i := by
  cases i with
  | zero => exact ST.below_zero htb.ris
  | succ i =>
    rw [slotAt_succ, if_neg (by rw [hb]; decide), Array.getD_eq_getD_getElem?, Array.getElem?_eq_getElem (by omega)]
    exact ST.below_next htb.ris (by omega)
end
end L2
set_option Elab.async false
set_option linter.all false
set_option maxRecDepth 100000
set_option maxHeartbeats 4000000
namespace L2
open PySem PySem.Spec PyProof.Rows PySem.W
section
variable {prog : Program} {w : World} {A : Around} {E : Value → Shared → Prop} {s : Shared} {it d : Addr} {es : Array (Int × Value)} {ep i : Nat} {t : SetTable}
theorem set_next {Q : Option (Value × Nat) → Shared → Prop} (hm : SetAt s.heap d es ep t) (hf : t.fits es.size = true) (htb : ST.Tb t (!byT w)) (htp : ST.Tp t) (hi : i ≤ es.size) (h : Q (((ordr w d es ep)[i]?).map fun e => (e.2, slotAt w t (i + 1))) s) : wpAny (model prog w) A (setNext d (slotAt w t i) i ep) Q E s := by
  have hp := (fits_iff.mp hf).1
  obtain ⟨o, g, c, dt⟩ := id hm
  unfold setNext
  refine wpAny_bind (wpAny_setState_of g dt hf ?_)
  dsimp only
  refine wpAny_bind (by_text ?_)
  cases hb : byT w with
  | true =>
    have e0 : slotAt w t i = 0 := by
      cases i with
      | zero => rfl
      | succ i => rw [slotAt_succ, if_pos hb]
    have e1 : slotAt w t (i + 1) = 0 := by rw [slotAt_succ, if_pos hb]
    have e2 : ordr w d es ep = pickOrder (w.params.setOrder d ep) es := by unfold ordr; rw [if_pos hb]
    rw [e1, e2] at h
    rw [e0, if_pos rfl, if_neg (by simp)]
    exact wpAny_bind (walk_text hm hf hb (wpAny_pure h))
  | false =>
    have e2 : ordr w d es ep = es := by unfold ordr; rw [if_neg (by rw [hb]; decide)]
    rw [e2] at h
    rw [if_neg (by decide)]
    refine (show wpAny _ _ (if (!t.plain && decide (es.size > 1)) = true then _ else _) _ _ s from ?_)
    rw [htp.plain, if_neg (by simp)]
    refine (show wpAny _ _ ((if (!t.led && !es.isEmpty) = true then unsupported "set:maker-not-led" else pure ()) >>= fun _ => _) _ _ s from ?_)
    rw [htb.led, hb]
    refine wpAny_bind (wpAny_pure ?_)
    rw [below_slot hb htb (by omega)]
    refine wpAny_pure ?_
    rcases Nat.lt_or_ge i es.size with l | l
    · rw [Array.getElem?_eq_getElem l] at h ⊢
      rw [Array.getElem?_eq_getElem (show i < t.place.size by omega)]
      have e1 : slotAt w t (i + 1) = t.place[i]'(by omega) + 1 := by
        rw [slotAt_succ, if_neg (by rw [hb]; decide), Array.getD_eq_getD_getElem?, Array.getElem?_eq_getElem (by omega)]
        rfl
      rw [e1] at h
      exact h
    · rw [Array.getElem?_eq_none l] at h ⊢
      exact h
theorem iter_set {Q : Value → Shared → Prop} (hm : SetAt s.heap d es ep t) (hf : t.fits es.size = true) (htp : ST.Tp t) (hQ : Q (.ref s.heap.objs.size) { s with heap := s.heap.push { cls := .type "set_iterator", data := .fields #[.int 0 0, .int 0 0, .ref d, .int es.size 0, .int ep 0] } }) : wpAny (model prog w) A (pyIter (.ref d)) Q E s := by
  obtain ⟨o, g, c, dt⟩ := id hm
  have T := hm.typeIs
  refine wpAny_pyIter_slot T PySem.F.slot_set_iter (wpAny_call_entry PySem.F.slot_set_iter T entry_set_it ?_ (PySem.F.args_set_iter_1 _))
  unfold Builtin.«frozenset.__iter__» Builtin.Frozenset.slot0 slotArgs
  refine wpAny_bind (wpAny_bind (wpAny_pure (wpAny_pure ?_)))
  unfold Builtin.Frozenset.sizeOf
  refine wpAny_bind (wpAny_bind (wpAny_setEntries_of g dt hf (wpAny_pure ?_)))
  unfold setDrawn
  refine wpAny_bind (wpAny_bind (wpAny_setState_of g dt hf ?_))
  dsimp only
  refine wpAny_bind (by_text ?_)
  refine (show wpAny _ _ (pure (!byT w && (!t.plain && decide (es.size > 1)))) _ _ s from wpAny_pure ?_)
  rw [htp.plain]
  refine (show wpAny _ _ (if (!byT w && false) = true then _ else _) _ _ s from ?_)
  rw [Bool.and_false, if_neg (by decide)]
  refine wpAny_bind (wpAny_pure (wpAny_bind (si_epoch g dt hf ?_)))
  unfold newFields
  exact wpAny_bind (wpAny_newObj_type (wpAny_pure ⟨_, rfl, "set_iterator", _, ⟨_, Heap.get?_push_size _ rfl, rfl⟩, slot_si_next.lookup, hQ⟩))
theorem next_set {Q : Option Value → Shared → Prop} (hit : SetIt s.heap it d (slotAt w t i) i es.size ep) (hm : SetAt s.heap d es ep t) (hf : t.fits es.size = true) (htb : ST.Tb t (!byT w)) (htp : ST.Tp t) (hi : i < es.size) (hQ : ∀ h', SetIt h' it d (slotAt w t (i + 1)) (i + 1) es.size ep → Heap.SameBut it s.heap h' → Q (some ((ordr w d es ep)[i]'(by rw [ordr_size]; exact hi)).2) { s with heap := h' }) : wpAny (model prog w) A (pyNext (.ref it)) Q E s := by
  obtain ⟨o, g, c, dt⟩ := hit.ex
  obtain ⟨o2, g2, c2, dt2⟩ := id hm
  have T := hit.typeIs
  unfold pyNext
  refine wpAny_bind (wpAny_attempt (wpAny_callSpecial?_slot (name := Str.ofString "__next__") T slot_si_next (wpAny_call_entry slot_si_next T entry_si_next ?_ (args_si_next _))))
  unfold Builtin.«set_iterator.__next__» slotArgs
  refine wpAny_bind (wpAny_pure (wpAny_bind (wpAny_fieldsOf g dt ?_)))
  dsimp only
  refine wpAny_bind (wpAny_setEntries_of g2 dt2 hf ?_)
  rw [if_neg (by simp)]
  rw [Int.toNat_natCast, Int.toNat_natCast, Int.toNat_natCast]
  refine wpAny_bind (set_next hm hf htb htp (Nat.le_of_lt hi) ?_)
  rw [Array.getElem?_eq_getElem (by rw [ordr_size]; exact hi)]
  refine (show wpAny _ _ (setField (.ref it) 0 (rawInt ((slotAt w t (i + 1) : Nat) : Int)) >>= fun _ => setField (.ref it) 1 (rawInt ((i : Int) + 1)) >>= fun _ => ret _) _ _ s from ?_)
  refine wpAny_bind (wpAny_setField g dt (by simp) ?_)
  have g3 := Heap.get?_update_self (Obj.mapFields (·.setIfInBounds 0 (rawInt ((slotAt w t (i + 1) : Nat) : Int)))) g (Obj.isFreed_of_fields (Obj.data_mapFields dt _))
  have d3 := Obj.data_mapFields dt (·.setIfInBounds 0 (rawInt ((slotAt w t (i + 1) : Nat) : Int)))
  refine wpAny_bind (wpAny_setField (s := { s with heap := s.heap.update it (Obj.mapFields (·.setIfInBounds 0 (rawInt ((slotAt w t (i + 1) : Nat) : Int)))) }) g3 d3 (by simp) ?_)
  refine wpAny_pure ⟨_, rfl, wpAny_pure (hQ _ ⟨_, Heap.get?_update_self _ g3 (Obj.isFreed_of_fields (Obj.data_mapFields d3 _)), (Obj.cls_mapFields ..).trans ((Obj.cls_mapFields ..).trans c), ?_⟩ ((Heap.SameBut.update ..).trans (Heap.SameBut.update ..)))⟩
  rw [Obj.data_mapFields d3]
  simp [rawInt]
theorem end_set {Q : Option Value → Shared → Prop} (hh : A.handled = none) (hit : SetIt s.heap it d (slotAt w t es.size) es.size es.size ep) (hm : SetAt s.heap d es ep t) (hf : t.fits es.size = true) (htb : ST.Tb t (!byT w)) (htp : ST.Tp t) (hQ : ∀ h', Heap.ExtBut it s.heap h' → Q none { s with heap := h' }) : wpAny (model prog w) A (pyNext (.ref it)) Q E s := by
  obtain ⟨o, g, c, dt⟩ := hit.ex
  obtain ⟨o2, g2, c2, dt2⟩ := id hm
  have T := hit.typeIs
  unfold pyNext
  refine wpAny_bind (wpAny_attempt (wpAny_callSpecial?_slot (name := Str.ofString "__next__") T slot_si_next (wpAny_call_entry slot_si_next T entry_si_next ?_ (args_si_next _))))
  unfold Builtin.«set_iterator.__next__» slotArgs
  refine wpAny_bind (wpAny_pure (wpAny_bind (wpAny_fieldsOf g dt ?_)))
  dsimp only
  refine wpAny_bind (wpAny_setEntries_of g2 dt2 hf ?_)
  rw [if_neg (by simp)]
  rw [Int.toNat_natCast, Int.toNat_natCast, Int.toNat_natCast]
  refine wpAny_bind (set_next hm hf htb htp (Nat.le_refl _) ?_)
  rw [Array.getElem?_eq_none (by rw [ordr_size]; exact Nat.le_refl _)]
  refine (show wpAny _ _ (setField (.ref it) 2 .none >>= _) _ _ s from wpAny_bind (wpAny_setField g dt (by simp) ?_))
  refine (show wpAny _ _ (newExc (.type "StopIteration") [] >>= _) _ _ _ from wpAny_bind ?_)
  simp only [newExc, newTuple]
  refine wpAny_bind (wpAny_newObj_type (wpAny_bind (m := firstArgMember _ _) (wpAny_of_eq (a := Value.none) (by first | rfl | (simp only [firstArgMember]; rfl)) (wpAny_newObj_type ?_ (by size_fits)))) (by size_fits))
  simp only [raiseNew]
  apply wpAny_bind
  apply wpAny_handled
  have h1 : A.in1.handled = none := hh
  rw [h1]
  refine wpAny_bind (wpAny_pure (wpAny_throw ?_))
  refine wpAny_bind (wpAny_isInstance (b := true) (T := "StopIteration") ⟨_, Heap.get?_push_size _ rfl, rfl⟩ isSubtype_stop ?_)
  exact wpAny_pure (hQ _ (((Heap.SameBut.update ..).extBut.push _).push _))
theorem self_set {slot n : Nat} {Q : Value → Shared → Prop} (hit : SetIt s.heap it d slot i n ep) (h : Q (.ref it) s) : wpAny (model prog w) A (pyIter (.ref it)) Q E s := by
  refine wpAny_pyIter_slot hit.typeIs slot_si_iter (wpAny_call_entry slot_si_iter hit.typeIs entry_si_iter ?_ (args_si_iter _))
  refine (show wpAny _ _ (ret (.ref it)) _ _ s from ?_)
  exact wpAny_pure ⟨_, rfl, "set_iterator", _, hit.typeIs, slot_si_next.lookup, h⟩
theorem hint_set {r : Addr} {Q : Bool → Shared → Prop} (hT : s.TypeIs (.ref r) "set") (h : Q false s) : wpAny (model prog w) A (Builtin.List.listLengthHint (.ref r)) Q E s := by
  unfold Builtin.List.listLengthHint
  refine wpAny_bind (wpAny_specialOf hT PySem.F.slot_set_len.lookup ?_)
  generalize hid : ("set.__len__" : String) = id0
  wp_delta
  rw [show splitId id0 = some ("set", "__len__") from by subst hid; decide +kernel]
  subst hid
  refine wpAny_bind (wpAny_isInstance (T := "set") (b := true) hT (by rw [isSubtype_type]; kernel_rfl) ?_)
  refine wpAny_ite_split (fun hab => absurd hab (by decide)) (fun _ => ?_)
  refine wpAny_ite_split (fun _ => ?_) (fun hab => absurd (by decide +kernel) hab)
  refine wpAny_bind (wpAny_typeOf hT ?_)
  exact wpAny_pure h
end
theorem walks_set {prog : Program} {w : World} {A : Around} (hh : A.handled = none) (I d : Addr) (hne : d ≠ I) (es : Array (Int × Value)) (ep : Nat) (t : SetTable) (hf : t.fits es.size = true) (htb : ST.Tb t (!byT w)) (htp : ST.Tp t) : Walks prog w A I [I, d] [I] es.size (fun i v => ∃ e, (ordr w d es ep)[i]? = some e ∧ v = e.2) (fun i h => SetIt h I d (slotAt w t i) i es.size ep ∧ SetAt h d es ep t) where
  sub := fun b hb => by
    have : b = I := by simpa using hb
    simp [this]
  frame := fun _ _ _ st k => ⟨st.1.at fun o e => k I (by simp) o e, st.2.at fun o e => k d (by simp) o e⟩
  item := fun i s Q E hi st hQ => next_set st.1 st.2 hf htb htp hi fun h' i2 sb => hQ _ h' s.toks ⟨_, Array.getElem?_eq_getElem (by rw [ordr_size]; exact hi), rfl⟩ ⟨i2, st.2.at fun o e => sb.extBut d o hne e⟩ fun b o hb e => sb.extBut b o (fun z => hb (by simp [z])) e
  done := fun s Q E st hQ => end_set hh st.1 st.2 hf htb htp fun h' he => hQ h' s.toks fun b o hb e => he b o (fun z => hb (by simp [z])) e
  self := fun _ _ _ _ st hQ => self_set st.1 hQ
theorem src_set {prog : Program} {w : World} {d : Addr} {es : Array (Int × Value)} {ep : Nat} {t : SetTable} (hf : t.fits es.size = true) (htb : ST.Tb t (!byT w)) (htp : ST.Tp t) : KdlSrc prog w "set" d d es.size (fun i v => ∃ e, (ordr w d es ep)[i]? = some e ∧ v = e.2) (fun h => SetAt h d es ep t) where
  type := fun _ m => m.typeIs
  there := fun _ ⟨_, g, _⟩ => ⟨Heap.lt_size g, Heap.lt_size g⟩
  keep := fun _ _ m k => m.at fun o e => k d (.inl rfl) o e
  notList := by decide
  notTuple := by decide
  hint := fun _ _ _ _ m q => hint_set m.typeIs q
  iter := fun _ s hh m => ⟨_, _, fun _ _ hq => iter_set m hf htp hq, walks_set hh _ d (fun z => by obtain ⟨_, g, _⟩ := m; exact absurd (Heap.lt_size g) (by rw [z]; exact Nat.lt_irrefl _)) es ep t hf htb htp, ⟨⟨_, Heap.get?_push_size _ rfl, rfl, rfl⟩, m.at fun o e => Heap.get?_push_of_some _ e⟩⟩
end L2
set_option Elab.async false
set_option linter.all false
set_option maxRecDepth 100000
set_option maxHeartbeats 4000000
namespace L2
open PySem PySem.Spec PyProof.Rows PySem.W
section
variable {prog : Program} {w : World} {A : Around} {E : Value → Shared → Prop} {s : Shared}
theorem collect_set {d : Addr} {es : Array (Int × Value)} {ep : Nat} {t : SetTable} {Q : List Value → Shared → Prop} (hh : A.handled = none) (hm : SetAt s.heap d es ep t) (hf : t.fits es.size = true) (htb : ST.Tb t (!byT w)) (htp : ST.Tp t) (hn : es.size ≤ sizeLine)
    (h : ∀ h' tk (vs : List Value), (∀ b o, s.heap.get? b = some o → h'.get? b = some o) → s.heap.objs.size < h'.objs.size → vs.length = es.size → (∀ (i : Nat) v, vs[i]? = some v → ∃ e, (ordr w d es ep)[i]? = some e ∧ v = e.2) → Q vs { s with heap := h', toks := tk }) : wpAny (model prog w) A (collect (.ref d)) Q E s := by
  obtain ⟨o, g, c, dt⟩ := id hm
  have dlt := Heap.lt_size g
  unfold collect
  refine wpAny_bind (wpAny_runValue (codeAny_builtin entry_proto_collect' ?_))
  refine (show wpAny _ _ (do again (.builtin "list.__iadd__" ⟨[← newList [], .ref d], []⟩)) _ _ s from ?_)
  refine wpAny_bind (wpAny_newList (wpAny_pure ⟨Code.quiet_builtin _ (by decide +kernel), codeAny_builtin entry_list_iadd' ?_⟩))
  have dS : s.heap.objs.size ≠ d := fun z => absurd dlt (by rw [← z]; exact Nat.lt_irrefl _)
  refine (show wpAny _ _ (Builtin.List.listExtendWith (.ref s.heap.objs.size) (.ref d) (.ref s.heap.objs.size)) _ _ { s with heap := s.heap.push (seqObj "list" #[] 0) } from ?_)
  rw [Around.under_plainId PySem.F.plain_list_iadd _]
  have fin : ∀ s' : Shared, (∃ h' tk acc c', s' = { s with heap := h', toks := tk } ∧ (∀ b o, b ≠ s.heap.objs.size → (s.heap.push (seqObj "list" #[] 0)).get? b = some o → h'.get? b = some o) ∧ h'.get? s.heap.objs.size = some { cls := .type "list", dict := none, data := .seq acc c', slots := #[] } ∧ ItemsOf (fun i v => ∃ e, (ordr w d es ep)[i]? = some e ∧ v = e.2) acc es.size) → wpAny (model prog w) A (load s.heap.objs.size >>= fun o => match o.data with | .seq xs _ => pure xs.toList | _ => unsupported "internal:collect") Q E s' := by
    rintro s' ⟨h', tk, acc, c', rfl, kp, gS, hI⟩
    exact wpAny_bind (wpAny_load gS (wpAny_pure (h h' tk acc.toList (fun b o e => kp b o (Nat.ne_of_lt (Heap.lt_size e)) (Heap.get?_push_of_some _ e)) (Heap.lt_size gS) (by rw [Array.length_toList]; exact hI.1) fun i v e => hI.2 i v (by rw [← Array.getElem?_toList]; exact e))))
  refine wpAny_mono (kdl_extend (s := { s with heap := s.heap.push (seqObj "list" #[] 0) }) (R := fun r s' => r = .ok (.ret (.ref s.heap.objs.size)) ∧ ∃ h' tk acc c', s' = { s with heap := h', toks := tk } ∧ (∀ b o, b ≠ s.heap.objs.size → (s.heap.push (seqObj "list" #[] 0)).get? b = some o → h'.get? b = some o) ∧ h'.get? s.heap.objs.size = some { cls := .type "list", dict := none, data := .seq acc c', slots := #[] } ∧ ItemsOf (fun i v => ∃ e, (ordr w d es ep)[i]? = some e ∧ v = e.2) acc es.size)
    (src_set (es := es) (ep := ep) hf htb htp) hh (hm.at fun o e => Heap.get?_push_of_some _ e) s.heap.objs.size dS dS (.ref s.heap.objs.size) 0 (Heap.get?_push_size _ rfl) (fun h' tk acc c' kp gS hI => ⟨rfl, h', tk, acc, c', rfl, kp, gS, hI⟩) hn) (fun fi s' hf => ?_) (fun e s' he => by cases he.1)
  cases fi with
  | done f =>
    obtain ⟨e, r⟩ := hf
    cases e
    exact fin s' r
  | again c' =>
    refine ⟨hf.1, codeAny_mono hf.2 fun r s'' hr => ?_⟩
    obtain ⟨e, r⟩ := hr
    cases e
    exact fin s'' r
end
end L2
set_option Elab.async false
set_option linter.all false
set_option maxRecDepth 100000
set_option maxHeartbeats 4000000
namespace L2
open PySem PySem.Spec PyProof.Rows PySem.W
structure Ans {α : Type} (n : Nat) (lt : Nat → Nat → Bool) (t : KasT α) (Q : α → Prop) : Prop where
  ok : kok n lt t = true
  q : Q (krun lt t)
section
variable {α β : Type} {n : Nat} {lt : Nat → Nat → Bool}
theorem Ans.ret {a : α} {Q : α → Prop} (h : Q a) : Ans n lt (.ret a) Q := ⟨rfl, h⟩
theorem Ans.ask {i j : Nat} {k : Bool → KasT α} {Q : α → Prop} (hi : i < n) (hj : j < n) (h : Ans n lt (k (lt i j)) Q) : Ans n lt (.ask i j k) Q := ⟨by rw [kok, decide_eq_true hi, decide_eq_true hj, h.ok]; rfl, h.q⟩
theorem k_bind {f : α → KasT β} : ∀ t : KasT α, kok n lt (t.bind f) = (kok n lt t && kok n lt (f (krun lt t))) ∧ krun lt (t.bind f) = krun lt (f (krun lt t))
  | .ret a => ⟨by show kok n lt (f a) = (true && _); rw [Bool.true_and]; rfl, rfl⟩
  | .ask i j k => by
    obtain ⟨a, b⟩ := k_bind (f := f) (k (lt i j))
    constructor
    · show (decide (i < n) && decide (j < n) && kok n lt ((k (lt i j)).bind f)) = ((decide (i < n) && decide (j < n) && kok n lt (k (lt i j))) && kok n lt (f (krun lt (k (lt i j)))))
      rw [a, Bool.and_assoc, Bool.and_assoc, Bool.and_assoc]
    · exact b
theorem Ans.bind {t : KasT α} {f : α → KasT β} {R : α → Prop} {Q : β → Prop} (h : Ans n lt t R) (g : ∀ a, R a → Ans n lt (f a) Q) : Ans n lt (t.bind f) Q := by
  obtain ⟨a, b⟩ := k_bind (n := n) (lt := lt) (f := f) t
  have := g _ h.q
  exact ⟨by rw [a, h.ok, this.ok]; rfl, by rw [b]; exact this.q⟩
theorem Ans.mono {t : KasT α} {R Q : α → Prop} (h : Ans n lt t R) (g : ∀ a, R a → Q a) : Ans n lt t Q := ⟨h.ok, g _ h.q⟩
end
theorem nd_inj2 {α : Type} {l : List α} (nd : l.Nodup) {i j : Nat} (hi : i < l.length) (hj : j < l.length) (e : l[i] = l[j]) : i = j := by
  have pw := List.pairwise_iff_getElem.mp (List.nodup_iff_pairwise_ne.mp nd)
  rcases Nat.lt_trichotomy i j with c | c | c
  · exact absurd e (pw i j hi hj c)
  · exact c
  · exact absurd e.symm (pw j i hj hi c)
def Pm (n : Nat) (p : Array Nat) : Prop := p.toList.Perm (List.range n)
theorem Pm.size {n : Nat} {p : Array Nat} (h : Pm n p) : p.size = n := by
  have := List.Perm.length_eq h
  simpa using this
theorem Pm.lt {n : Nat} {p : Array Nat} (h : Pm n p) {i : Nat} (hi : i < n) : p.getD i 0 < n := by
  have hs : i < p.size := by rw [h.size]; exact hi
  rw [Array.getD_eq_getD_getElem?, Array.getElem?_eq_getElem hs]
  exact List.mem_range.mp ((List.Perm.mem_iff h).mp (Array.getElem_mem_toList hs))
theorem Pm.inj {n : Nat} {p : Array Nat} (h : Pm n p) {i j : Nat} (hi : i < n) (hj : j < n) (e : p.getD i 0 = p.getD j 0) : i = j := by
  have si : i < p.size := by rw [h.size]; exact hi
  have sj : j < p.size := by rw [h.size]; exact hj
  rw [Array.getD_eq_getD_getElem?, Array.getD_eq_getD_getElem?, Array.getElem?_eq_getElem si, Array.getElem?_eq_getElem sj] at e
  have nd : p.toList.Nodup := (List.Perm.nodup_iff h).mpr List.nodup_range
  have e : p[i] = p[j] := e
  exact nd_inj2 nd (by simpa using si) (by simpa using sj) (by simpa using e)
section
variable {n : Nat} {lt : Nat → Nat → Bool} {ky : Nat → Nat}
def Asc (ky : Nat → Nat) (p : Array Nat) (m : Nat) : Prop := ∀ i j, i < j → j < m → ky (p.getD i 0) < ky (p.getD j 0)
def Dsc (ky : Nat → Nat) (p : Array Nat) (m : Nat) : Prop := ∀ i j, i < j → j < m → ky (p.getD j 0) < ky (p.getD i 0)
theorem Asc.snoc {p : Array Nat} {m : Nat} (h : Asc ky p m) (h1 : 1 ≤ m) (e : ky (p.getD (m - 1) 0) < ky (p.getD m 0)) : Asc ky p (m + 1) := fun i j hij hj => by
  rcases Nat.lt_or_ge j m with c | c
  · exact h i j hij c
  · have : j = m := by omega
    subst this
    rcases Nat.lt_or_ge i (j - 1) with d | d
    · exact Nat.lt_trans (h i (j - 1) d (by omega)) e
    · have : i = j - 1 := by omega
      subst this
      exact e
theorem Dsc.snoc {p : Array Nat} {m : Nat} (h : Dsc ky p m) (h1 : 1 ≤ m) (e : ky (p.getD m 0) < ky (p.getD (m - 1) 0)) : Dsc ky p (m + 1) := fun i j hij hj => by
  rcases Nat.lt_or_ge j m with c | c
  · exact h i j hij c
  · have : j = m := by omega
    subst this
    rcases Nat.lt_or_ge i (j - 1) with d | d
    · exact Nat.lt_trans e (h i (j - 1) d (by omega))
    · have : i = j - 1 := by omega
      subst this
      exact e
variable (hlt : ∀ i j, i < n → j < n → lt i j = decide (ky i < ky j)) (hinj : ∀ i j, i < n → j < n → ky i = ky j → i = j)
include hlt hinj
theorem ne_key {p : Array Nat} (hp : Pm n p) {i j : Nat} (hi : i < n) (hj : j < n) (hij : i ≠ j) : ky (p.getD i 0) ≠ ky (p.getD j 0) := fun e => hij (hp.inj hi hj (hinj _ _ (hp.lt hi) (hp.lt hj) e))
theorem ans_asc {p : Array Nat} (hp : Pm n p) {Q : Nat → Prop} : ∀ (f m : Nat), 1 ≤ m → m + f ≤ n → Asc ky p m → (∀ m', m ≤ m' → m' ≤ m + f → Asc ky p m' → (m' = m + f ∨ ky (p.getD m' 0) < ky (p.getD (m' - 1) 0)) → Q m') → Ans n lt (kas_asc p f m) Q
  | 0, m, h1, hf, ha, q => .ret (q m (Nat.le_refl _) (by omega) ha (.inl (by omega)))
  | f + 1, m, h1, hf, ha, q => by
    refine .ask (hp.lt (by omega)) (hp.lt (by omega)) ?_
    rw [hlt _ _ (hp.lt (by omega)) (hp.lt (by omega))]
    by_cases c : ky (p.getD m 0) < ky (p.getD (m - 1) 0)
    · rw [decide_eq_true c, if_pos rfl]
      exact .ret (q m (Nat.le_refl _) (by omega) ha (.inr c))
    · rw [decide_eq_false c, if_neg (by decide)]
      have := ne_key hlt hinj hp (i := m) (j := m - 1) (by omega) (by omega) (by omega)
      exact ans_asc hp f (m + 1) (by omega) (by omega) (ha.snoc h1 (by omega)) fun m' a b c d => q m' (by omega) (by omega) c (by omega)
theorem ans_desc {p : Array Nat} (hp : Pm n p) {Q : Array Nat × Nat × Nat → Prop} : ∀ (f m : Nat), 1 ≤ m → m + f ≤ n → Dsc ky p m → (∀ m', m ≤ m' → m' ≤ m + f → Dsc ky p m' → Q (p, m', 0)) → Ans n lt (kas_desc f p m 0) Q
  | 0, m, h1, hf, ha, q => .ret (q m (Nat.le_refl _) (by omega) ha)
  | f + 1, m, h1, hf, ha, q => by
    refine .ask (hp.lt (by omega)) (hp.lt (by omega)) ?_
    rw [hlt _ _ (hp.lt (by omega)) (hp.lt (by omega))]
    by_cases c : ky (p.getD m 0) < ky (p.getD (m - 1) 0)
    · rw [decide_eq_true c, if_pos rfl, if_neg (by decide)]
      exact ans_desc hp f (m + 1) (by omega) (by omega) (ha.snoc h1 c) fun m' a b d => q m' (by omega) (by omega) d
    · rw [decide_eq_false c, if_neg (by decide)]
      have := ne_key hlt hinj hp (i := m) (j := m - 1) (by omega) (by omega) (by omega)
      refine .ask (hp.lt (by omega)) (hp.lt (by omega)) ?_
      rw [hlt _ _ (hp.lt (by omega)) (hp.lt (by omega)), decide_eq_true (by omega), if_pos rfl]
      exact .ret (q m (Nat.le_refl _) (by omega) ha)
omit hlt hinj in
theorem rev_at {p : Array Nat} {m k : Nat} (hm : m ≤ p.size) : (kas_rev p 0 m).getD k 0 = if k < m then p.getD (m - 1 - k) 0 else p.getD k 0 := by
  unfold kas_rev
  rw [Array.getD_eq_getD_getElem?, getElem?_mirror_all hm]
  by_cases c : k < m
  · rw [if_pos ⟨Nat.zero_le _, c⟩, if_pos c, Array.getD_eq_getD_getElem?, Nat.zero_add]
  · rw [if_neg (fun z => c z.2), if_neg c, Array.getD_eq_getD_getElem?]
omit hlt hinj in
theorem rev_pm {p : Array Nat} {i j : Nat} (hp : Pm n p) : Pm n (kas_rev p i j) := (Array.perm_iff_toList_perm.mp (mirror_perm p i j _)).trans hp
omit hlt hinj in
theorem rev_asc {p : Array Nat} {m : Nat} (hm : m ≤ p.size) (h : Dsc ky p m) : Asc ky (kas_rev p 0 m) m := fun i j hij hj => by
  rw [rev_at hm, rev_at hm, if_pos (by omega), if_pos hj]
  exact h _ _ (by omega) (by omega)
theorem ans_descPart {p : Array Nat} (hp : Pm n p) (h2 : 2 ≤ n) (h : ky (p.getD 1 0) < ky (p.getD 0 0)) {Q : Nat × Array Nat → Prop} (q : ∀ m p', 1 ≤ m → m ≤ n → Pm n p' → Asc ky p' m → Q (m, p')) : Ans n lt (kas_descPart 1 n p) Q := by
  unfold kas_descPart
  have d2 : Dsc ky p (1 + 1) := fun i j hij hj => by
    have a : i = 0 := by omega
    have b : j = 1 := by omega
    subst a b
    exact h
  refine Ans.bind (R := fun r => ∃ m', 2 ≤ m' ∧ m' ≤ n ∧ Dsc ky p m' ∧ r = (p, m', 0)) (ans_desc hlt hinj hp _ _ (by omega) (by omega) d2 fun m' a b c => ⟨m', a, by omega, c, rfl⟩) ?_
  rintro _ ⟨m', a, b, c, rfl⟩
  dsimp only
  rw [if_neg (by decide)]
  unfold kas_tail3
  have sz : m' ≤ p.size := by rw [hp.size]; exact b
  refine Ans.bind (R := fun m2 => 1 ≤ m2 ∧ m2 ≤ n ∧ Asc ky (kas_rev p 0 m') m2) (ans_asc hlt hinj (rev_pm hp) _ _ (by omega) (by omega) (rev_asc sz c) fun m2 a2 b2 c2 _ => ⟨by omega, by omega, c2⟩) ?_
  rintro m2 ⟨a2, b2, c2⟩
  exact .ret (q _ _ a2 b2 (rev_pm hp) c2)
theorem ans_count {p : Array Nat} (hp : Pm n p) (h2 : 2 ≤ n) {Q : Nat × Array Nat → Prop} (q : ∀ m p', 1 ≤ m → m ≤ n → Pm n p' → Asc ky p' m → Q (m, p')) : Ans n lt (kas_count n p) Q := by
  unfold kas_count
  refine Ans.bind (R := fun m => 1 ≤ m ∧ m ≤ n ∧ Asc ky p m ∧ (m = n ∨ ky (p.getD m 0) < ky (p.getD (m - 1) 0))) (ans_asc hlt hinj hp _ _ (Nat.le_refl _) (by omega) (fun i j hij hj => by omega) fun m a b c d => ⟨a, by omega, c, by omega⟩) ?_
  rintro m ⟨a, b, c, d⟩
  by_cases e : m = n
  · rw [if_pos (by simpa using e)]
    exact .ret (q _ _ a b hp c)
  · rw [if_neg (by simpa using e)]
    by_cases g : m > 1
    · rw [if_pos g]
      refine .ask (hp.lt (by omega)) (hp.lt (by omega)) ?_
      rw [hlt _ _ (hp.lt (by omega)) (hp.lt (by omega)), decide_eq_true (c 0 (m - 1) (by omega) (by omega)), if_pos rfl]
      exact .ret (q _ _ a b hp c)
    · rw [if_neg g]
      have m1 : m = 1 := by omega
      subst m1
      exact ans_descPart hlt hinj hp h2 (d.resolve_left e) q
theorem ans_place {p : Array Nat} (hp : Pm n p) {k : Nat} (hk : k < n) (ha : Asc ky p k) {Q : Nat → Prop} (q : ∀ l, l ≤ k → (∀ j, j < l → ky (p.getD j 0) < ky (p.getD k 0)) → (∀ j, l ≤ j → j < k → ky (p.getD k 0) < ky (p.getD j 0)) → Q l) :
    ∀ (f l r : Nat), r - l ≤ f → l ≤ r → r ≤ k → (∀ j, j < l → ky (p.getD j 0) < ky (p.getD k 0)) → (∀ j, r ≤ j → j < k → ky (p.getD k 0) < ky (p.getD j 0)) → Ans n lt (kas_place p k f l r) Q
  | 0, l, r, hf, hl, hr, h1, h2 => by
    have : l = r := by omega
    subst this
    exact .ret (q l hr h1 h2)
  | f + 1, l, r, hf, hl, hr, h1, h2 => by
    unfold kas_place
    by_cases c : l ≥ r
    · rw [if_pos c]
      have : l = r := by omega
      subst this
      exact .ret (q l hr h1 h2)
    · rw [if_neg c]
      have hm : (l + r) / 2 < k := by omega
      refine .ask (hp.lt hk) (hp.lt (by omega)) ?_
      rw [hlt _ _ (hp.lt hk) (hp.lt (by omega))]
      by_cases d : ky (p.getD k 0) < ky (p.getD ((l + r) / 2) 0)
      · rw [decide_eq_true d, if_pos rfl]
        refine ans_place hp hk ha q f l _ (by omega) (by omega) (by omega) h1 fun j hj hjk => ?_
        rcases Nat.lt_or_ge ((l + r) / 2) j with e | e
        · exact Nat.lt_trans d (ha _ _ e hjk)
        · have : j = (l + r) / 2 := by omega
          subst this
          exact d
      · rw [decide_eq_false d, if_neg (by decide)]
        have ne := ne_key hlt hinj hp (i := k) (j := (l + r) / 2) hk (by omega) (by omega)
        refine ans_place hp hk ha q f _ r (by omega) (by omega) hr (fun j hj => ?_) h2
        rcases Nat.lt_or_ge j ((l + r) / 2) with e | e
        · have := ha _ _ e hm
          omega
        · have : j = (l + r) / 2 := by omega
          subst this
          omega
omit hlt hinj in
theorem bub_at {p : Array Nat} {k d i : Nat} (hk : k < p.size) (hd : d ≤ k) : (bubble p k d).getD i 0 = if i = k - d then p.getD k 0 else if k - d < i ∧ i ≤ k then p.getD (i - 1) 0 else p.getD i 0 := by
  rw [Array.getD_eq_getD_getElem?, getElem?_bubble hk d hd, Array.getD_eq_getD_getElem?, Array.getD_eq_getD_getElem?, Array.getD_eq_getD_getElem?]
  split
  · rfl
  · split
    · rfl
    · rfl
theorem ans_bin : ∀ (f : Nat) (p : Array Nat) (k : Nat), k + f = n → Pm n p → Asc ky p k → Ans n lt (kas_bin f p k) (fun p' => Pm n p' ∧ Asc ky p' n)
  | 0, p, k, hk, hp, ha => .ret ⟨hp, by rw [← hk]; exact ha⟩
  | f + 1, p, k, hk, hp, ha => by
    unfold kas_bin
    have hk' : k < n := by omega
    have sz : k < p.size := by rw [hp.size]; exact hk'
    refine Ans.bind (R := fun l => l ≤ k ∧ (∀ j, j < l → ky (p.getD j 0) < ky (p.getD k 0)) ∧ ∀ j, l ≤ j → j < k → ky (p.getD k 0) < ky (p.getD j 0)) (ans_place hlt hinj hp hk' ha (fun l a b c => ⟨a, b, c⟩) k 0 k (by omega) (Nat.zero_le _) (Nat.le_refl _) (fun j hj => by omega) fun j h1 h2 => by omega) ?_
    rintro l ⟨a, b, c⟩
    refine ans_bin f _ (k + 1) (by omega) ((Array.perm_iff_toList_perm.mp (bubble_perm p k _)).trans hp) fun i j hij hj => ?_
    rw [bub_at sz (by omega), bub_at sz (by omega), show k - (k - l) = l by omega]
    by_cases i1 : i = l
    · rw [if_pos i1, if_neg (by omega), if_pos (by omega)]
      exact c _ (by omega) (by omega)
    · rw [if_neg i1]
      by_cases i2 : l < i ∧ i ≤ k
      · rw [if_pos i2, if_neg (by omega), if_pos (by omega)]
        exact ha _ _ (by omega) (by omega)
      · rw [if_neg i2]
        by_cases j1 : j = l
        · rw [if_pos j1]
          exact b i (by omega)
        · rw [if_neg j1]
          by_cases j2 : l < j ∧ j ≤ k
          · rw [if_pos j2]
            rcases Nat.lt_or_ge i (j - 1) with e | e
            · exact ha _ _ e (by omega)
            · omega
          · rw [if_neg j2]
            exact ha _ _ hij (by omega)
theorem ans_sort (h2 : 2 ≤ n) : Ans n lt (kas_sort n) (fun p' => Pm n p' ∧ Asc ky p' n) := by
  unfold kas_sort
  refine Ans.bind (R := fun r => 1 ≤ r.1 ∧ r.1 ≤ n ∧ Pm n r.2 ∧ Asc ky r.2 r.1) (ans_count hlt hinj (p := List.toArray (List.range n)) (by unfold Pm; simp) h2 fun m p' a b c d => ⟨a, b, c, d⟩) ?_
  rintro ⟨m, p'⟩ ⟨a, b, c, d⟩
  dsimp only at a b c d ⊢
  by_cases e : m < n
  · rw [if_pos e, show max m 1 = m by omega]
    exact ans_bin hlt hinj _ _ _ (by omega) c d
  · rw [if_neg e]
    have : m = n := by omega
    subst this
    exact .ret ⟨c, d⟩
end
theorem sort_keysG {ks : List Nat} (h2 : 2 ≤ ks.length) (nd : ks.Nodup) (lt : Nat → Nat → Bool) (hlt : ∀ i j, i < ks.length → j < ks.length → lt i j = decide (ks.getD i 0 < ks.getD j 0)) :
    kok ks.length lt (kas_sort ks.length) = true ∧ ((krun lt (kas_sort ks.length)).toList.map fun i => ks.getD i 0).Pairwise (· < ·) ∧ (∀ i, i < ks.length → i ∈ (krun lt (kas_sort ks.length)).toList) ∧ ∀ i ∈ (krun lt (kas_sort ks.length)).toList, i < ks.length := by
  obtain ⟨h1, hp, ha⟩ := ans_sort (ky := fun i => ks.getD i 0) hlt (fun i j hi hj e => by
    rw [List.getD_eq_getElem?_getD, List.getD_eq_getElem?_getD, List.getElem?_eq_getElem hi, List.getElem?_eq_getElem hj] at e
    exact nd_inj2 nd hi hj e) h2
  refine ⟨h1, ?_, fun i hi => (List.Perm.mem_iff hp).mpr (List.mem_range.mpr hi), fun i hi => List.mem_range.mp ((List.Perm.mem_iff hp).mp hi)⟩
  rw [List.pairwise_map, List.pairwise_iff_getElem]
  intro i j hi hj hij
  have si := hp.size
  have := ha i j hij (by rw [← si]; simpa using hj)
  rw [Array.getD_eq_getD_getElem?, Array.getD_eq_getD_getElem?, Array.getElem?_eq_getElem (by simpa using hi), Array.getElem?_eq_getElem (by simpa using hj)] at this
  simpa using this
end L2
set_option Elab.async false
set_option linter.all false
set_option maxRecDepth 100000
set_option maxHeartbeats 4000000
namespace L2
open PySem PySem.Spec PyProof.Rows PySem.W
section
variable {prog : Program} {w : World} {A : Around} {E : Value → Shared → Prop} {s : Shared}
theorem sort_pairsG {a : Addr} {vs : List Value} {n : Nat} {ps : List (Nat × Nat)} {P : PySem.Fin → Shared → Prop} (ho : s.heap.get? a = some (seqObj "list" vs.toArray n)) (ht : Paired (TupAt s.heap) ps vs) (hb : ∀ p ∈ ps, p.2 < 16) (nd : ps.Nodup) (h5 : ps.length < 64)
    (h : ∀ (out : List Value) (qs : List (Nat × Nat)), Paired (fun q v => TupAt s.heap q v ∧ v ∈ vs) qs out → SortsTo ps qs → P (.done (.ret .none)) { s with heap := sortedHeap s.heap a vs out.toArray }) :
    wpAny (model prog w) A (Builtin.«list.sort» ⟨[.ref a], []⟩) P E s := by
  have lv : ps.length = vs.length := Paired.length ht
  have al : a < s.heap.objs.size := Heap.lt_size ho
  have n64 : vs.length < 64 := by omega
  rw [list_sort_plain]
  refine wpAny_bind (listItems_at ho rfl (wpAny_bind (listUpdate_at ho rfl ?_ (by rw [List.size_toArray, sizeLine_eq]; omega) (Nat.zero_le _))))
  obtain ⟨e1, g1⟩ : ∃ e1, (s.heap.update a (Obj.mapSeq fun _ => (#[] : Array Value))).get? a = some (seqObj "list" #[] e1) := ⟨_, get?_update_seq ho _⟩
  refine wpAny_bind (seqEpoch_at g1 rfl (wpAny_bind (wpAny_newTuple (wpAny_bind (wpAny_newList (wpAny_holding ?_) (Nat.zero_le _))) (by show vs.length ≤ _; rw [sizeLine_eq]; omega))))
  dsimp only
  have g6 : (((s.heap.update a (Obj.mapSeq fun _ => (#[] : Array Value))).push (seqObj "tuple" vs.toArray 0)).push (seqObj "list" #[] 0)).get? a = some (seqObj "list" #[] e1) := Heap.get?_push_of_some _ (Heap.get?_push_of_some _ g1)
  have old : ∀ r o, r ≠ a → s.heap.get? r = some o → (((s.heap.update a (Obj.mapSeq fun _ => (#[] : Array Value))).push (seqObj "tuple" vs.toArray 0)).push (seqObj "list" #[] 0)).get? r = some o := fun r o hr e => Heap.get?_push_of_some _ (Heap.get?_push_of_some _ (by rw [Heap.get?_update_ne _ _ _ _ hr]; exact e))
  have fin : ∀ (st : SortSt) (out : List Value) (qs : List (Nat × Nat)), (arrOf st).map (·.2) = out.toArray → failedOf st = none → Paired (fun q v => TupAt s.heap q v ∧ v ∈ vs) qs out → SortsTo ps qs →
      P (.done (.ret .none)) { s with heap := sortedHeap s.heap a vs ((arrOf st).map (·.2)) } := fun st out qs e _ hp hs => by
    rw [e]
    exact h out qs hp hs
  by_cases h2 : vs.toArray.size < 2
  · rw [if_pos h2, if_pos h2]
    refine wpAny_bind (wpAny_pure ?_)
    rw [StateT.run_pure]
    refine wpAny_bind (wpAny_pure ?_)
    dsimp only
    have ez : (arrOf (SortSt.mk' general' (vs.toArray.zip vs.toArray) #[] 7 none)).map (·.2) = vs.toArray := by
      show (vs.toArray.zip vs.toArray).map (·.2) = vs.toArray
      apply Array.toList_inj.mp
      simp [List.map_snd_zip]
    have l2 : ps.length < 2 := by rw [lv]; simpa using h2
    have self : SortsTo ps ps := ⟨by
      match ps, l2 with
      | [], _ => exact .nil
      | [_], _ => simp, fun _ => Iff.rfl⟩
    refine wpAny_bind (seqEpoch_at g6 rfl (wpAny_bind (listUpdate_at g6 rfl ?_ (Nat.zero_le _) (by rw [ez, List.size_toArray, sizeLine_eq]; omega))))
    simp only [bne_self_eq_false, Bool.false_eq_true, if_false]
    refine wpAny_pure (fin _ vs ps ez rfl ?_ self)
    refine paired_of lv fun i p v hp hv => ?_
    obtain ⟨p', h1, h2⟩ := paired_get ht hv
    rw [hp] at h1
    cases h1
    exact ⟨h2, List.mem_of_getElem? hv⟩
  · rw [if_neg h2, if_neg h2]
    rw [List.size_toArray] at h2
    have ne : ∀ v ∈ vs, ∀ r, v = .ref r → r ≠ a := fun v hv r e z => by
      obtain ⟨i, hi⟩ := List.getElem?_of_mem hv
      obtain ⟨p, _, r', o, k, _, _, e', g, c, d⟩ := paired_get ht hi
      rw [e] at e'
      cases e'
      rw [z, ho] at g
      cases g
      exact absurd c (by show ¬ (Value.type "list" = Value.type "tuple"); decide)
    have ht6 : Paired (TupAt (((s.heap.update a (Obj.mapSeq fun _ => (#[] : Array Value))).push (seqObj "tuple" vs.toArray 0)).push (seqObj "list" #[] 0))) ps vs := by
      refine paired_of lv fun i p v hp hv => ?_
      obtain ⟨p', h1, r, o, k, tx, ty, e, g, c, d⟩ := paired_get ht hv
      rw [hp] at h1
      cases h1
      exact ⟨r, o, k, tx, ty, e, old r o (ne v (List.mem_of_getElem? hv) r e) g, c, d⟩
    obtain ⟨fs, k1, k2, k3⟩ := katTups_of ht6
    refine wpAny_bind (kat_kind (T := .type "int") (s := { s with heap := (((s.heap.update a (Obj.mapSeq fun _ => (#[] : Array Value))).push (seqObj "tuple" vs.toArray 0)).push (seqObj "list" #[] 0)) }) k1 (by omega) (fun v hv => ?_) (by decide) ?_)
    · obtain ⟨i, t, rfl⟩ := k3 v hv
      exact Looks.of_pure rfl
    have tb : (Value.type "int" != Value.type "tuple") = true := by decide
    have gk : ∀ i, i < ps.length → ∃ p, ps[i]? = some p ∧ p ∈ ps := fun i hi => ⟨ps[i], List.getElem?_eq_getElem hi, List.getElem_mem hi⟩
    have kd : ∀ i p, ps[i]? = some p → (ps.map key16).getD i 0 = key16 p := fun i p e => by rw [List.getD_eq_getElem?_getD, List.getElem?_map, e]; rfl
    have knd : (ps.map key16).Nodup := by
      rw [List.nodup_iff_pairwise_ne, List.pairwise_map]
      refine List.Pairwise.imp_of_mem (fun {x y} hx hy hne e => hne ?_) (List.nodup_iff_pairwise_ne.mp nd)
      have a1 := hb x hx
      have a2 := hb y hy
      unfold key16 at e
      exact Prod.ext (by omega) (by omega)
    let lt : Nat → Nat → Bool := fun i j => decide ((ps.map key16).getD i 0 < (ps.map key16).getD j 0)
    obtain ⟨r1, r2, r3, r4⟩ := sort_keysG (ks := ps.map key16) (by rw [List.length_map]; omega) knd lt (fun _ _ _ _ => rfl)
    rw [List.length_map, lv] at r1 r2 r3 r4
    refine wpAny_bind (wpAny_mono (kat_run (ks := vs) (vs := vs) (Q := fun st' s' => s' = { s with heap := (((s.heap.update a (Obj.mapSeq fun _ => (#[] : Array Value))).push (seqObj "tuple" vs.toArray 0)).push (seqObj "list" #[] 0)) } ∧ failedOf st' = none ∧ (krun lt (kas_sort vs.length)).size = vs.length ∧ (arrOf st').map (·.2) = List.toArray ((krun lt (kas_sort vs.length)).toList.map fun i => vs.getD i Value.none))
      (G := fun p s' => s' = { s with heap := (((s.heap.update a (Obj.mapSeq fun _ => (#[] : Array Value))).push (seqObj "tuple" vs.toArray 0)).push (seqObj "list" #[] 0)) } ∧ p = krun lt (kas_sort vs.length)) rfl (by omega) n64 (fun p st' s' b1 b2 b3 g => ⟨g.1, b3, by rw [← g.2]; exact b1, by rw [kat_snds rfl b2, g.2]⟩)
      (krun_wp (n := vs.length) (lt := lt) (Ok := fun s' => s' = { s with heap := (((s.heap.update a (Obj.mapSeq fun _ => (#[] : Array Value))).push (seqObj "tuple" vs.toArray 0)).push (seqObj "list" #[] 0)) }) (fun i j C s' hi hj o q => ?_) _ _ r1 rfl (fun s' o => ⟨o, rfl⟩))) ?_ fun _ _ e => e)
    · subst o
      obtain ⟨p, e1', m1⟩ := gk i (by omega)
      obtain ⟨p2, e2', m2⟩ := gk j (by omega)
      have v1 : vs[i]? = some (vs.getD i Value.none) := by rw [List.getD_eq_getElem?_getD, List.getElem?_eq_getElem hi]; rfl
      have v2 : vs[j]? = some (vs.getD j Value.none) := by rw [List.getD_eq_getElem?_getD, List.getElem?_eq_getElem hj]; rfl
      obtain ⟨p', f1, t1⟩ := paired_get ht6 v1
      obtain ⟨p2', f2, t2⟩ := paired_get ht6 v2
      rw [e1'] at f1
      cases f1
      rw [e2'] at f2
      cases f2
      refine lt_pair tb (hb _ m1) (hb _ m2) t1 t2 ?_
      have := q _ rfl
      show C _ _
      rw [← kd i _ e1', ← kd j _ e2']
      exact this
    rintro ⟨⟨⟩, st⟩ s' ⟨rfl, hf, hz, hs⟩
    dsimp only at hf hs ⊢
    refine wpAny_bind (seqEpoch_at g6 rfl (wpAny_bind (listUpdate_at g6 rfl ?_ (Nat.zero_le _) ?_)))
    · rw [hf]
      simp only [bne_self_eq_false, Bool.false_eq_true, if_false]
      refine wpAny_pure (fin st _ ((krun lt (kas_sort vs.length)).toList.map fun i => ps.getD i (0, 0)) hs hf ?_ ?_)
      · refine paired_of (by rw [List.length_map, List.length_map]) fun k q v hq hv => ?_
        rw [List.getElem?_map] at hq hv
        cases e : (krun lt (kas_sort vs.length)).toList[k]? with
        | none => rw [e] at hq; cases hq
        | some i =>
          rw [e] at hq hv
          cases hq
          cases hv
          have hi := r4 i (List.mem_of_getElem? e)
          have v1 : vs[i]? = some (vs.getD i Value.none) := by rw [List.getD_eq_getElem?_getD, List.getElem?_eq_getElem hi]; rfl
          obtain ⟨p', f1, t1⟩ := paired_get ht v1
          have : ps.getD i (0, 0) = p' := by rw [List.getD_eq_getElem?_getD, f1]; rfl
          dsimp only
          rw [this]
          exact ⟨t1, List.mem_of_getElem? v1⟩
      · refine ⟨?_, fun p => ?_⟩
        · rw [List.pairwise_map] at r2 ⊢
          refine List.Pairwise.imp_of_mem (fun {x y} hx hy hlt => ?_) r2
          obtain ⟨p, e1', m1⟩ := gk x (by rw [lv]; exact r4 x hx)
          obtain ⟨p2, e2', m2⟩ := gk y (by rw [lv]; exact r4 y hy)
          rw [kd x p e1', kd y p2 e2', key16_lt (hb p m1) (hb p2 m2)] at hlt
          rw [List.getD_eq_getElem?_getD, e1', List.getD_eq_getElem?_getD, e2']
          exact hlt
        · constructor
          · intro hp
            obtain ⟨i, hi, rfl⟩ := List.mem_map.mp hp
            obtain ⟨p, e1', m1⟩ := gk i (by rw [lv]; exact r4 i hi)
            rw [List.getD_eq_getElem?_getD, e1']
            exact m1
          · intro hp
            obtain ⟨i, hi⟩ := List.getElem?_of_mem hp
            have il := (List.getElem?_eq_some_iff.mp hi).1
            exact List.mem_map.mpr ⟨i, r3 i (by omega), by rw [List.getD_eq_getElem?_getD, hi]; rfl⟩
    · rw [hs, List.size_toArray, List.length_map, Array.length_toList, hz, sizeLine_eq]
      omega
theorem sorted_entG {d : Addr} {es : Array DictEntry} {ep : Nat} {ps : List (Nat × Nat)} {Q : Value → Shared → Prop} (hh : A.handled = none) (lo : (d == sysModules) = false) (hm : EntAt s.heap d es ep) (le : ps.length = es.size) (ht : ∀ (i : Nat) (e : DictEntry) p, es[i]? = some e → ps[i]? = some p → TupAt s.heap p e.key) (hb : ∀ p ∈ ps, p.2 < 16) (nd : ps.Nodup) (h5 : ps.length < 64)
    (h : ∀ h' tk l (out : List Value) (qs : List (Nat × Nat)), (∀ b o, s.heap.get? b = some o → h'.get? b = some o) → s.heap.objs.size ≤ l → (∃ e, h'.get? l = some (seqObj "list" out.toArray e)) → Paired (fun q v => TupAt s.heap q v ∧ ∃ (i : Nat) (e : DictEntry), es[i]? = some e ∧ v = e.key) qs out → SortsTo ps qs → Q (.ref l) { s with heap := h', toks := tk }) : wpAny (model prog w) A (call (.builtin "sorted") [.ref d]) Q E s := by
  apply Calls.call_function_entry kind_sorted plain_sorted entry_sorted (args_sorted1 _)
  unfold Builtin.«sorted»
  refine wpAny_bind (m := checkCount "sorted" 1 1 _) (wpAny_pure (wpAny_bind (collect_ent (by simpa using hh) lo hm (by rw [← le, sizeLine_eq]; omega) fun h1 tk vs kp sz lv hv => wpAny_bind (wpAny_newList ?_ (by rw [lv, ← le, sizeLine_eq]; omega)))))
  have kp2 : ∀ b o, s.heap.get? b = some o → (h1.push (seqObj "list" vs.toArray 0)).get? b = some o := fun b o e => Heap.get?_push_of_some _ (kp b o e)
  have gL : (h1.push (seqObj "list" vs.toArray 0)).get? h1.objs.size = some (seqObj "list" vs.toArray 0) := Heap.get?_push_size _ rfl
  have each : ∀ (i : Nat) p v, ps[i]? = some p → vs[i]? = some v → TupAt s.heap p v := fun i p v hp hv' => by
    obtain ⟨e, he, rfl⟩ := hv i v hv'
    exact ht i e p he hp
  have htL : Paired (TupAt (h1.push (seqObj "list" vs.toArray 0))) ps vs := paired_of (by rw [le, lv]) fun i p v hp hv' => by
    obtain ⟨r, o, k, tx, ty, e, g, c, dd⟩ := each i p v hp hv'
    exact ⟨r, o, k, tx, ty, e, kp2 r o g, c, dd⟩
  refine (show wpAny _ _ _ _ _ { s with heap := h1.push (seqObj "list" vs.toArray 0), toks := tk } from ?_)
  refine wpAny_bind (wpAny_holding (wpAny_call_entry slot_list_sort ⟨_, gL, rfl⟩ entry_list_sort (sort_pairsG (s := { s with heap := h1.push (seqObj "list" vs.toArray 0), toks := tk }) gL htL hb nd h5 fun out qs a1 a2 => ⟨_, rfl, wpAny_pure ⟨_, rfl, h _ tk _ out qs (fun b o e => ?_) (Nat.le_of_lt sz) (sortedHeap_at gL) ?_ a2⟩⟩) (args_list_sort _)))
  · have blt : b < h1.objs.size := Heap.lt_size (kp b o e)
    rw [sortedHeap_old (Nat.ne_of_lt blt) (by rw [size_push']; exact Nat.lt_succ_of_lt blt)]
    exact kp2 b o e
  · refine paired_of (Paired.length a1) fun i q v hq hv' => ?_
    obtain ⟨q', e1, b1, m⟩ := paired_get a1 hv'
    rw [hq] at e1
    cases e1
    obtain ⟨j, hj⟩ := List.getElem?_of_mem m
    obtain ⟨e, he, ev⟩ := hv j v hj
    refine ⟨?_, j, e, he, ev⟩
    have jl : j < ps.length := by
      rw [le, ← lv]
      exact (List.getElem?_eq_some_iff.mp hj).1
    obtain ⟨r, o, k, tx, ty, e0, g, c, dd⟩ := b1
    obtain ⟨r', o', k', tx', ty', e', g', c', d'⟩ := each j _ v (List.getElem?_eq_getElem jl) hj
    rw [e0] at e'
    cases e'
    have := kp2 r o' g'
    rw [g] at this
    cases this
    exact ⟨r, _, k, tx, ty, e0, g', c, dd⟩
end
section
variable {X : Cx}
def rSortDG : List V → Hp → VK → Prop := fun xs H Q => ∃ (d : Addr) (kvs : List (List Key × V)) (ps : List (Nat × Nat)), xs = [.ref d] ∧ H d = some (.dT kvs) ∧ kvs.map (·.1) = ps.map (fun p => pk p.1 p.2) ∧ (∀ p ∈ ps, p.2 < 16) ∧ ps.Nodup ∧ ps.length < 64 ∧
  ∀ (l : Addr) (qs : List (Nat × Nat)) (ss : List Addr), H l = none → SortsTo ps qs → PL H qs ss → Q (.ref l) (upd H l (.lst (ss.map V.ref)))
theorem call_sortedDG (hc : X.calm = true) : CallR X (.builtin "sorted") rSortDG := by
  intro pins s σ H xs us Q I r h
  obtain ⟨d, kvs, ps, rfl, hd, hk, hb, nd, h5, q⟩ := h
  obtain ⟨u, rfl, rx⟩ := vals1 r
  cases rx
  obtain ⟨_, lo, ys, rel, o, es, ep, g, c, dt, he, _, _⟩ := dt_of I.hok hd
  have ly : kvs.length = ys.length := Paired.length rel
  have lp : ps.length = kvs.length := by have := congrArg List.length hk; simpa using this.symm
  have les : es.size = ys.length := by rw [← Array.length_toList, he, List.length_map]
  have key : ∀ (i : Nat) e, es[i]? = some e → ∃ (b : Addr) (p : Nat × Nat), e.key = .ref b ∧ ps[i]? = some p ∧ H b = some (.tup [.int (p.1 : Int), .int (p.2 : Int)]) := fun i e hi => by
    rw [← Array.getElem?_toList, he, List.getElem?_map] at hi
    cases ey : ys[i]? with
    | none => rw [ey] at hi; cases hi
    | some y =>
      rw [ey] at hi
      cases hi
      obtain ⟨kv, hkv, h1, h2, _⟩ := paired_get rel ey
      have hp : (kvs.map (·.1))[i]? = some kv.1 := by rw [List.getElem?_map, hkv]; rfl
      rw [hk, List.getElem?_map] at hp
      cases ep' : ps[i]? with
      | none => rw [ep'] at hp; cases hp
      | some p =>
        rw [ep'] at hp
        have hp : pk p.1 p.2 = kv.1 := Option.some.inj hp
        refine ⟨y.2.1, p, rfl, rfl, ?_⟩
        rw [← hp] at h2
        exact h2
  have tup : ∀ (b : Addr) (p : Nat × Nat), H b = some (.tup [.int (p.1 : Int), .int (p.2 : Int)]) → TupAt s.heap p (.ref b) := fun b p hH => by
    obtain ⟨it2, r2, ⟨o, g, c, k, dd⟩, _⟩ := I.tuple (a := b) (xs := [.int (p.1 : Int), .int (p.2 : Int)]) (.inl (.inl hH))
    obtain ⟨x, y, rfl, ⟨tx, rfl⟩, ⟨ty, rfl⟩⟩ := vals2 r2
    exact ⟨b, o, k, tx, ty, rfl, g, c, dd⟩
  refine sorted_entG (ps := ps) (I.ok.hd hc) lo ⟨o, g, c, dt⟩ (by rw [lp, ly, les]) (fun i e p hi hp => ?_) hb nd h5 fun h' tk l out qs kp sz hl a1 a2 => ?_
  · obtain ⟨b, p', e1, e2, e3⟩ := key i e hi
    rw [hp] at e2
    cases e2
    rw [e1]
    exact tup b p e3
  obtain ⟨el, hl⟩ := hl
  have each : ∀ (i : Nat) q v, qs[i]? = some q → out[i]? = some v → ∃ b, v = Value.ref b ∧ H b = some (.tup [.int (q.1 : Int), .int (q.2 : Int)]) := fun i q v hq hv => by
    obtain ⟨q', h1, tq, j, e, hj, rfl⟩ := paired_get a1 hv
    rw [hq] at h1
    cases h1
    obtain ⟨b, p, e1, _, e3⟩ := key j e hj
    refine ⟨b, e1, ?_⟩
    rw [e1] at tq
    obtain ⟨r0, o0, k0, tx0, ty0, e0, g0, c0, d0⟩ := tq
    cases e0
    obtain ⟨r1, o1, k1, tx1, ty1, e1', g1, c1, d1⟩ := tup b p e3
    cases e1'
    rw [g0] at g1
    cases g1
    rw [d0] at d1
    injection d1 with z _
    have z2 := congrArg (fun a => a.toList) z
    simp at z2
    have : q = p := Prod.ext (by omega) (by omega)
    rw [this]
    exact e3
  obtain ⟨ss, hv, hp⟩ := pick_refs (Paired.length a1) each
  have ls : (ss.map V.ref).length = out.length := hv.length
  have lq : qs.length = out.length := Paired.length a1
  refine ⟨.ref l, _, I.laid (t' := tk) (o := .lst (ss.map V.ref)) kp sz ⟨?_, out, el, hv, hl⟩, rfl, q _ qs ss (I.hok.fresh sz) a2 hp⟩
  rw [ls, ← lq]
  exact Nat.le_trans (List.Nodup.length_le_of_subset (Row.plt_nodup a2.1) fun q hq => (a2.2 q).mp hq) (Nat.le_trans (Nat.le_of_lt h5) (by decide))
end
end L2
set_option Elab.async false
set_option linter.all false
set_option maxRecDepth 100000
set_option maxHeartbeats 4000000
namespace ST
open PySem
theorem cyc_all : ∀ mask ∈ masks, ∀ i < mask + 1, orbB mask (mask + 1) i 0 0 = 2 ^ (mask + 1) - 1 := by decide +kernel
theorem orbL_skip {mask : Nat} : ∀ (m k i p : Nat), ∃ i', (i ≤ mask → i' ≤ mask) ∧ ∀ j ∈ orbL mask k i' (p / 32 ^ m), j ∈ orbL mask (m + k) i p
  | 0, k, i, p => ⟨i, id, fun j hj => by rw [Nat.zero_add]; simpa using hj⟩
  | m + 1, k, i, p => by
    obtain ⟨i', h1, h2⟩ := orbL_skip (mask := mask) m k (SetTable.leap mask i p).1 (SetTable.leap mask i p).2
    refine ⟨i', fun _ => h1 ?_, fun j hj => ?_⟩
    · have : (i * 5 + 1 + p / 32) % (mask + 1) < mask + 1 := Nat.mod_lt _ (by omega)
      show (i * 5 + 1 + p / 32) % (mask + 1) ≤ mask
      omega
    · rw [show m + 1 + k = (m + k) + 1 by omega]
      refine List.mem_cons_of_mem _ (h2 j ?_)
      have e : (SetTable.leap mask i p).2 / 32 ^ m = p / 32 ^ (m + 1) := by
        show p / 32 / 32 ^ m = _
        rw [Nat.div_div_eq_div_mul, Nat.pow_succ, Nat.mul_comm]
      rw [e]
      exact hj
theorem orbL_more {mask : Nat} {j : Nat} : ∀ (n m i p : Nat), n ≤ m → j ∈ orbL mask n i p → j ∈ orbL mask m i p
  | 0, m, i, p, _, h => by cases h
  | n + 1, 0, i, p, h, _ => by omega
  | n + 1, m + 1, i, p, h, hj => by
    rcases List.mem_cons.mp hj with rfl | hj
    · exact List.mem_cons_self
    · exact List.mem_cons_of_mem _ (orbL_more n m _ _ (by omega) hj)
theorem cov_any {mask i p j : Nat} (hm : mask ∈ masks) (hi : i ≤ mask) (hp : p < 2 ^ 64) (hj : j ≤ mask) : j ∈ orbL mask (SetTable.turns mask) i p := by
  obtain ⟨i', h1, h2⟩ := orbL_skip (mask := mask) 13 (mask + 1) i p
  have z : p / 32 ^ 13 = 0 := Nat.div_eq_of_lt (Nat.lt_of_lt_of_le hp (by decide))
  refine orbL_more (13 + (mask + 1)) _ _ _ (by unfold SetTable.turns; omega) (h2 j ?_)
  rw [z]
  have e := cyc_all mask hm i' (by have := h1 hi; omega)
  rcases orbB_bit (mask + 1) i' 0 0 j (by rw [e, Nat.testBit_two_pow_sub_one]; exact decide_eq_true (by omega)) with z | z
  · simp at z
  · exact z
theorem bits_lt (h : Int) : SetTable.bits h < 2 ^ 64 := by
  unfold SetTable.bits
  have := Int.emod_lt_of_pos h (show (0 : Int) < 2 ^ 64 by decide)
  have := Int.emod_nonneg h (show (2 ^ 64 : Int) ≠ 0 by decide)
  omega
def adv (mask : Nat) (p : SetTable.Probe) : SetTable.Probe :=
  if p.more > 0 then { p with j := p.j + 1, more := p.more - 1 } else
  { p with j := (SetTable.leap mask p.i p.perturb).1, more := SetTable.runEnd mask (SetTable.leap mask p.i p.perturb).1 - (SetTable.leap mask p.i p.perturb).1, i := (SetTable.leap mask p.i p.perturb).1, perturb := (SetTable.leap mask p.i p.perturb).2 }
theorem advance_eq (t : SetTable) (p : SetTable.Probe) : t.advance p = adv t.mask p := rfl
def visit (mask : Nat) : Nat → SetTable.Probe → List Nat
  | 0, _ => []
  | n + 1, p => p.j :: visit mask n (adv mask p)
theorem adv_dummy {mask : Nat} {p : SetTable.Probe} {d : Option Nat} : adv mask { p with dummy := d } = { adv mask p with dummy := d } := by
  unfold adv
  dsimp only
  split <;> rfl
theorem visit_dummy {mask : Nat} {d : Option Nat} : ∀ (n : Nat) (p : SetTable.Probe), visit mask n { p with dummy := d } = visit mask n p
  | 0, _ => rfl
  | n + 1, p => by
    show p.j :: visit mask n (adv mask { p with dummy := d }) = p.j :: visit mask n (adv mask p)
    rw [adv_dummy, visit_dummy n]
theorem visit_more {mask : Nat} : ∀ (n m : Nat) (p : SetTable.Probe), n ≤ m → ∃ r, visit mask m p = visit mask n p ++ r
  | 0, m, p, _ => ⟨visit mask m p, rfl⟩
  | n + 1, 0, p, h => by omega
  | n + 1, m + 1, p, h => by
    obtain ⟨r, e⟩ := visit_more n m (adv mask p) (by omega)
    exact ⟨r, by show p.j :: _ = p.j :: _; rw [e]; rfl⟩
def blk (mask i pert : Nat) : SetTable.Probe := { j := i, more := SetTable.runEnd mask i - i, i := i, perturb := pert, dummy := none }
theorem visit_run {mask : Nat} : ∀ (r n : Nat) (p : SetTable.Probe), p.more = r → visit mask (r + 1 + n) p = (List.range (r + 1)).map (fun k => p.j + k) ++ visit mask n { blk mask (SetTable.leap mask p.i p.perturb).1 (SetTable.leap mask p.i p.perturb).2 with dummy := p.dummy }
  | 0, n, p, h => by
    rw [show 0 + 1 + n = n + 1 by omega]
    show p.j :: visit mask n (adv mask p) = _
    have : adv mask p = { blk mask (SetTable.leap mask p.i p.perturb).1 (SetTable.leap mask p.i p.perturb).2 with dummy := p.dummy } := by
      unfold adv
      rw [if_neg (by omega)]
      rfl
    rw [this]
    rfl
  | r + 1, n, p, h => by
    rw [show r + 1 + 1 + n = (r + 1 + n) + 1 by omega]
    show p.j :: visit mask (r + 1 + n) (adv mask p) = _
    have e : adv mask p = { p with j := p.j + 1, more := p.more - 1 } := by
      unfold adv
      rw [if_pos (by omega)]
    rw [e, visit_run r n _ (by show p.more - 1 = r; omega)]
    rw [List.range_succ_eq_map (n := r + 1), List.map_cons, List.map_map]
    have : ((fun k => p.j + k) ∘ Nat.succ) = fun k => p.j + 1 + k := by
      funext k
      show p.j + (k + 1) = _
      omega
    rw [this]
    rfl
theorem run_le (mask i : Nat) : SetTable.runEnd mask i - i ≤ 9 := by
  unfold SetTable.runEnd
  split <;> omega
theorem visit_blk {mask n i p : Nat} : ∃ r, visit mask (10 * (n + 1)) (blk mask i p) = (List.range (SetTable.runEnd mask i + 1 - i)).map (fun k => i + k) ++ visit mask (10 * n) (blk mask (SetTable.leap mask i p).1 (SetTable.leap mask i p).2) ++ r := by
  have hr := run_le mask i
  have hge : i ≤ SetTable.runEnd mask i := by
    unfold SetTable.runEnd
    split <;> omega
  have e := visit_run (mask := mask) (SetTable.runEnd mask i - i) (10 * (n + 1) - (SetTable.runEnd mask i - i + 1)) (blk mask i p) rfl
  rw [show SetTable.runEnd mask i - i + 1 + (10 * (n + 1) - (SetTable.runEnd mask i - i + 1)) = 10 * (n + 1) by omega] at e
  obtain ⟨r, er⟩ := visit_more (mask := mask) (10 * n) (10 * (n + 1) - (SetTable.runEnd mask i - i + 1)) (blk mask (SetTable.leap mask i p).1 (SetTable.leap mask i p).2) (by omega)
  refine ⟨r, ?_⟩
  rw [e]
  show _ ++ visit mask _ (blk mask (SetTable.leap mask i p).1 (SetTable.leap mask i p).2) = _
  rw [er, show SetTable.runEnd mask i + 1 - i = SetTable.runEnd mask i - i + 1 by omega, List.append_assoc]
  rfl
theorem orb_visit {mask : Nat} {x : Nat} : ∀ (n i p : Nat), x ∈ orbL mask n i p → x ∈ visit mask (10 * n) (blk mask i p)
  | 0, i, p, h => by cases h
  | n + 1, i, p, h => by
    obtain ⟨r, e⟩ := visit_blk (mask := mask) (n := n) (i := i) (p := p)
    rw [e]
    have hge : i ≤ SetTable.runEnd mask i := by
      unfold SetTable.runEnd
      split <;> omega
    rcases List.mem_cons.mp h with rfl | h
    · exact List.mem_append_left _ (List.mem_append_left _ (List.mem_map.mpr ⟨0, List.mem_range.mpr (by omega), by simp⟩))
    · exact List.mem_append_left _ (List.mem_append_right _ (orb_visit n _ _ h))
def road (mask : Nat) (h : Int) : List Nat := visit mask (10 * SetTable.turns mask) (blk mask (SetTable.bits h % (mask + 1)) (SetTable.bits h))
theorem road_all {mask : Nat} (hm : mask ∈ masks) (h : Int) {j : Nat} (hj : j ≤ mask) : j ∈ road mask h := by
  have : SetTable.bits h % (mask + 1) < mask + 1 := Nat.mod_lt _ (by omega)
  exact orb_visit _ _ _ (cov_any hm (by omega) (bits_lt h) hj)
def Reach (mask : Nat) (N : List Nat) (h : Int) (j : Nat) : Prop := ∃ pre suf, road mask h = pre ++ j :: suf ∧ ∀ x ∈ pre, x ∈ N
theorem Reach.mono {mask : Nat} {N M : List Nat} {h : Int} {j : Nat} (r : Reach mask N h j) (k : ∀ x ∈ N, x ∈ M) : Reach mask M h j := let ⟨p, s, e, g⟩ := r; ⟨p, s, e, fun x hx => k x (g x hx)⟩
section
variable {t : SetTable} {f : Nat → Int} {h : Int}
theorem go_found {j i : Nat} (hs : t.slot j = .live i) (hf : f i = h) : ∀ (n : Nat) (p : SetTable.Probe) (pre suf : List Nat), visit t.mask n p = pre ++ j :: suf → (∀ x ∈ pre, t.slot x ≠ .empty ∧ ∀ i', t.slot x = .live i' → f i' ≠ h) → ∃ nx, SetTable.probe.go t f h n p = some (.candidate j i nx)
  | 0, p, pre, suf, e, _ => by
    have := congrArg List.length e
    simp [visit] at this
  | n + 1, p, [], suf, e, _ => by
    have e : p.j :: visit t.mask n (adv t.mask p) = j :: suf := e
    injection e with e1 e2
    unfold SetTable.probe.go
    rw [e1, hs]
    dsimp only
    rw [if_pos (by simpa using hf)]
    exact ⟨_, rfl⟩
  | n + 1, p, a :: pre, suf, e, g => by
    have e : p.j :: visit t.mask n (adv t.mask p) = a :: (pre ++ j :: suf) := e
    injection e with e1 e2
    obtain ⟨g1, g2⟩ := g a List.mem_cons_self
    rw [← e1] at g1 g2
    have g' : ∀ x ∈ pre, t.slot x ≠ .empty ∧ ∀ i', t.slot x = .live i' → f i' ≠ h := fun x hx => g x (List.mem_cons_of_mem _ hx)
    unfold SetTable.probe.go
    cases hp : t.slot p.j with
    | empty => exact absurd hp g1
    | dummy =>
      dsimp only
      rw [advance_eq, adv_dummy]
      exact go_found hs hf n _ pre suf (by rw [visit_dummy]; exact e2) g'
    | live i' =>
      dsimp only
      rw [if_neg (by simpa using g2 i' hp), advance_eq]
      exact go_found hs hf n _ pre suf e2 g'
theorem go_free (hno : ∀ x i', t.slot x = .live i' → f i' ≠ h) : ∀ (n : Nat) (p : SetTable.Probe), (∃ x ∈ visit t.mask n p, t.slot x = .empty) →
    ∃ j d pre suf, SetTable.probe.go t f h n p = some (.empty j d) ∧ visit t.mask n p = pre ++ j :: suf ∧ t.slot j = .empty ∧ (∀ x ∈ pre, t.slot x ≠ .empty) ∧ ((d = p.dummy) ∨ ∃ k ∈ pre, d = some k ∧ t.slot k = .dummy)
  | 0, p, hx => by
    obtain ⟨x, hx, _⟩ := hx
    cases hx
  | n + 1, p, hx => by
    obtain ⟨x, hx, hex⟩ := hx
    unfold SetTable.probe.go
    cases hp : t.slot p.j with
    | empty => exact ⟨p.j, p.dummy, [], _, rfl, rfl, hp, by simp, .inl rfl⟩
    | dummy =>
      have hx : x ∈ visit t.mask n (adv t.mask p) := (List.mem_cons.mp hx).resolve_left fun z => by rw [z, hp] at hex; cases hex
      obtain ⟨j, d, pre, suf, e1, e2, e3, e4, e5⟩ := go_free hno n (t.advance { p with dummy := some p.j }) ⟨x, by rw [advance_eq, adv_dummy, visit_dummy]; exact hx, hex⟩
      rw [advance_eq, adv_dummy, visit_dummy] at e2
      refine ⟨j, d, p.j :: pre, suf, e1, by show p.j :: _ = _; rw [e2]; rfl, e3, fun y hy => ?_, .inr ?_⟩
      · rcases List.mem_cons.mp hy with rfl | hy
        · rw [hp]; intro z; cases z
        · exact e4 y hy
      · rcases e5 with e5 | ⟨k, hk, e6, e7⟩
        · exact ⟨p.j, List.mem_cons_self, by rw [e5, advance_eq, adv_dummy], hp⟩
        · exact ⟨k, List.mem_cons_of_mem _ hk, e6, e7⟩
    | live i' =>
      have hx : x ∈ visit t.mask n (adv t.mask p) := (List.mem_cons.mp hx).resolve_left fun z => by rw [z, hp] at hex; cases hex
      dsimp only
      rw [if_neg (by simpa using hno _ i' hp)]
      obtain ⟨j, d, pre, suf, e1, e2, e3, e4, e5⟩ := go_free hno n (t.advance p) ⟨x, hx, hex⟩
      refine ⟨j, d, p.j :: pre, suf, e1, by show p.j :: _ = _; rw [← advance_eq, e2]; rfl, e3, fun y hy => ?_, ?_⟩
      · rcases List.mem_cons.mp hy with rfl | hy
        · rw [hp]; intro z; cases z
        · exact e4 y hy
      · rcases e5 with e5 | ⟨k, hk, e6, e7⟩
        · left
          rw [e5]
          unfold SetTable.advance
          split <;> rfl
        · exact .inr ⟨k, List.mem_cons_of_mem _ hk, e6, e7⟩
end
end ST
set_option Elab.async false
set_option linter.all false
set_option maxRecDepth 100000
set_option maxHeartbeats 4000000
namespace ST
open PySem
theorem take_zip' {α β : Type} : ∀ {n : Nat} {xs : List α} {ys : List β}, (xs.zip ys).take n = (xs.take n).zip (ys.take n)
  | 0, _, _ => rfl
  | n + 1, [], _ => by simp
  | n + 1, _ :: _, [] => by simp
  | n + 1, x :: xs, y :: ys => by
    rw [List.zip_cons_cons, List.take_succ_cons, List.take_succ_cons, List.take_succ_cons, List.zip_cons_cons, take_zip']
theorem drop_zip' {α β : Type} : ∀ {n : Nat} {xs : List α} {ys : List β}, (xs.zip ys).drop n = (xs.drop n).zip (ys.drop n)
  | 0, _, _ => rfl
  | n + 1, [], _ => by simp
  | n + 1, _ :: _, [] => by simp
  | n + 1, x :: xs, y :: ys => by
    rw [List.zip_cons_cons, List.drop_succ_cons, List.drop_succ_cons, List.drop_succ_cons, drop_zip']
structure Tg (t : SetTable) (b : Bool) (hs : List Int) : Prop where
  led : t.led = b
  plain : t.plain = true
  mask : t.mask ∈ masks
  size : t.place.size = hs.length
  rp : Rs t.place.toList
  rd : Rs t.dummies.toList
  dj : ∀ x ∈ t.place.toList, x ∉ t.dummies.toList
  rc : ∀ q ∈ t.place.toList.zip hs, Reach t.mask (t.place.toList ++ t.dummies.toList) q.2 q.1
section
variable {t : SetTable} {b : Bool} {hs : List Int}
theorem slot_live (T : Tg t b hs) {i j : Nat} (h : t.place[i]? = some j) : t.slot j = .live i := by
  obtain ⟨hi, e⟩ := Array.getElem?_eq_some_iff.mp h
  have := below_at T.rp hi
  unfold SetTable.slot
  dsimp only
  rw [← e, this, Array.getElem?_eq_getElem hi]
  simp
theorem live_slot {i j : Nat} (h : t.slot j = .live i) : t.place[i]? = some j := by
  unfold SetTable.slot at h
  dsimp only at h
  split at h
  · rename_i c
    injection h with h
    subst h
    simpa using c
  · split at h <;> cases h
theorem slot_mem (T : Tg t b hs) {x : Nat} (h : x ∈ t.place.toList ++ t.dummies.toList) : t.slot x ≠ .empty := by
  unfold SetTable.slot
  dsimp only
  split
  · intro z; cases z
  · rename_i c
    rcases List.mem_append.mp h with h | h
    · exact absurd (by rw [mem_at T.rp h]; simp) c
    · have : SetTable.has t.dummies x = true := by
        unfold SetTable.has
        rw [mem_at T.rd h]
        simp
      rw [if_pos this]
      intro z; cases z
theorem mem_slot {x : Nat} (h : t.slot x ≠ .empty) : x ∈ t.place.toList ++ t.dummies.toList := by
  unfold SetTable.slot at h
  dsimp only at h
  split at h
  · rename_i c
    have c : t.place[SetTable.below t.place x]? = some x := by simpa using c
    rw [← Array.getElem?_toList] at c
    exact List.mem_append_left _ (List.mem_of_getElem? c)
  · split at h
    · rename_i c
      unfold SetTable.has at c
      have c : t.dummies[SetTable.below t.dummies x]? = some x := by simpa using c
      rw [← Array.getElem?_toList] at c
      exact List.mem_append_right _ (List.mem_of_getElem? c)
    · exact absurd rfl h
theorem slot_dummy {x : Nat} (h : t.slot x = .dummy) : SetTable.has t.dummies x = true ∧ x ∈ t.dummies.toList := by
  unfold SetTable.slot at h
  dsimp only at h
  split at h
  · cases h
  · split at h
    · rename_i c
      refine ⟨c, ?_⟩
      unfold SetTable.has at c
      have c : t.dummies[SetTable.below t.dummies x]? = some x := by simpa using c
      rw [← Array.getElem?_toList] at c
      exact List.mem_of_getElem? c
    · cases h
theorem slot_empty {x : Nat} (h : t.slot x = .empty) : SetTable.has t.dummies x = false := by
  unfold SetTable.slot at h
  dsimp only at h
  split at h
  · cases h
  · split at h
    · cases h
    · rename_i c
      simpa using c
theorem Tg.zip_at (T : Tg t b hs) {i j : Nat} {h : Int} (h1 : t.place[i]? = some j) (h2 : hs[i]? = some h) : (j, h) ∈ t.place.toList.zip hs := by
  rw [← Array.getElem?_toList] at h1
  refine List.mem_of_getElem? (i := i) ?_
  rw [List.getElem?_zip_eq_some]
  exact ⟨h1, h2⟩
theorem Tg.at_place (T : Tg t b hs) {i : Nat} {h : Int} (h2 : hs[i]? = some h) : ∃ j, t.place[i]? = some j := by
  have := (List.getElem?_eq_some_iff.mp h2).1
  exact ⟨t.place[i]'(by rw [T.size]; exact this), Array.getElem?_eq_getElem _⟩
theorem Tg.find (T : Tg t b hs) (nd : hs.Nodup) {f : Nat → Int} (hf : ∀ i h, hs[i]? = some h → f i = h) {i : Nat} {h : Int} (hi : hs[i]? = some h) : ∃ j nx, t.probe f h (t.probeStart h) = some (.candidate j i nx) ∧ t.slot j = .live i := by
  obtain ⟨j, hj⟩ := T.at_place hi
  obtain ⟨pre, suf, e, g⟩ := T.rc _ (T.zip_at hj hi)
  have sl := slot_live T hj
  have key : ∀ x, t.slot x = .live i → x = j := fun x hx => by
    have := live_slot hx
    rw [hj] at this
    exact (Option.some.inj this).symm
  have uniq : ∀ x i', t.slot x = .live i' → f i' = h → x = j := fun x i' hx hfi => by
    have hp := live_slot hx
    have hlt : i' < hs.length := by rw [← T.size]; exact (Array.getElem?_eq_some_iff.mp hp).1
    have e1 := hf i' _ (List.getElem?_eq_getElem hlt)
    rw [hfi] at e1
    have hi' := List.getElem?_eq_some_iff.mp hi
    obtain ⟨hil, ei⟩ := hi'
    have : i' = i := by
      rcases Nat.lt_trichotomy i' i with c | c | c
      · exact absurd (by rw [ei, ← e1]) (List.pairwise_iff_getElem.mp (List.nodup_iff_pairwise_ne.mp nd) i' i hlt hil c)
      · exact c
      · exact absurd (by rw [ei, ← e1]) (List.pairwise_iff_getElem.mp (List.nodup_iff_pairwise_ne.mp nd) i i' hil hlt c)
    subst this
    exact key x hx
  obtain ⟨pre', suf', e', n'⟩ : ∃ pre' suf', road t.mask h = pre' ++ j :: suf' ∧ j ∉ pre' ∧ ∀ x ∈ pre', x ∈ t.place.toList ++ t.dummies.toList := by
    have : j ∈ pre ++ j :: suf := by simp
    clear key uniq
    revert g
    generalize road t.mask h = R at e
    subst e
    intro g
    induction pre with
    | nil => exact ⟨[], suf, rfl, by simp, by simp⟩
    | cons a pre ih =>
      by_cases c : a = j
      · subst c
        exact ⟨[], pre ++ a :: suf, rfl, by simp, by simp⟩
      · obtain ⟨p2, s2, e2, n2, g2⟩ := ih (by simp) fun x hx => g x (List.mem_cons_of_mem _ hx)
        refine ⟨a :: p2, s2, by rw [List.cons_append, e2]; rfl, fun z => ?_, fun x hx => ?_⟩
        · rcases List.mem_cons.mp z with z | z
          · exact c z.symm
          · exact n2 z
        · rcases List.mem_cons.mp hx with rfl | hx
          · exact g x List.mem_cons_self
          · exact g2 x hx
  obtain ⟨nx, en⟩ := go_found (t := t) (f := f) (h := h) sl (hf i h hi) (10 * SetTable.turns t.mask) (t.probeStart h) pre' suf' e' fun x hx => ⟨slot_mem T (n'.2 x hx), fun i' hl hfi => n'.1 (by rw [← uniq x i' hl hfi]; exact hx)⟩
  exact ⟨j, nx, en, sl⟩
theorem Tg.miss (T : Tg t b hs) {f : Nat → Int} (hf : ∀ i h, hs[i]? = some h → f i = h) {h : Int} (hn : h ∉ hs) (hfill : t.fill ≤ t.mask) : ∃ j d, t.probe f h (t.probeStart h) = some (.empty j d) ∧
    (∀ k, d = some k → t.slot k = .dummy) ∧ (d = none → SetTable.has t.dummies j = false) ∧ (d.getD j) ∉ t.place.toList ∧ Reach t.mask (t.place.toList ++ t.dummies.toList) h (d.getD j) := by
  obtain ⟨x, hx, ex⟩ := empty_slot hfill
  have hno : ∀ x i', t.slot x = .live i' → f i' ≠ h := fun x i' hl e => by
    have hp := live_slot hl
    have hlt : i' < hs.length := by rw [← T.size]; exact (Array.getElem?_eq_some_iff.mp hp).1
    have e1 := hf i' _ (List.getElem?_eq_getElem hlt)
    rw [e] at e1
    exact hn (by rw [e1]; exact List.getElem_mem hlt)
  obtain ⟨j, d, pre, suf, e1, e2, e3, e4, e5⟩ := go_free (t := t) (f := f) (h := h) hno (10 * SetTable.turns t.mask) (t.probeStart h) ⟨x, road_all T.mask h hx, ex⟩
  have e5 : d = none ∨ ∃ k ∈ pre, d = some k ∧ t.slot k = .dummy := e5
  have nin : ∀ y, (∀ i, t.slot y ≠ .live i) → y ∉ t.place.toList := fun y hy => not_live T.rp hy
  refine ⟨j, d, e1, fun k hk => ?_, fun _ => slot_empty e3, ?_⟩
  · rcases e5 with e5 | ⟨k', _, e6, e7⟩
    · rw [e5] at hk; cases hk
    · rw [e6] at hk
      cases hk
      exact e7
  · rcases e5 with e5 | ⟨k, hk, e6, e7⟩
    · subst e5
      exact ⟨nin j fun i z => (by rw [e3] at z; cases z), pre, suf, e2, fun y hy => mem_slot (e4 y hy)⟩
    · subst e6
      refine ⟨nin k fun i z => (by rw [e7] at z; cases z), ?_⟩
      obtain ⟨p1, p2, rfl⟩ := List.append_of_mem hk
      exact ⟨p1, p2 ++ j :: suf, by show road t.mask h = _; rw [show road t.mask h = _ from e2]; simp, fun y hy => mem_slot (e4 y (List.mem_append_left _ hy))⟩
theorem rs_nodup {xs : List Nat} (h : Rs xs) : xs.Nodup := List.nodup_iff_pairwise_ne.mpr (List.Pairwise.imp (fun z => Nat.ne_of_lt z) h)
theorem Tg.put (T : Tg t b hs) {h : Int} {k : Nat} (hk : k ∉ t.place.toList) (hr : Reach t.mask (t.place.toList ++ t.dummies.toList) h k) : Tg (t.put k).1 b (hs.take (t.put k).2 ++ h :: hs.drop (t.put k).2) ∧ (t.put k).2 ≤ hs.length := by
  have hb : SetTable.below t.place k ≤ t.place.size := (below_spec T.rp k).1
  have e2 : (t.put k).2 = SetTable.below t.place k := rfl
  have ep : (t.put k).1.place.toList = t.place.toList.take (SetTable.below t.place k) ++ k :: t.place.toList.drop (SetTable.below t.place k) := SetTable.toList_insertAt ..
  have ed : ∀ x ∈ (t.put k).1.dummies.toList, x ∈ t.dummies.toList ∧ x ≠ k := fun x hx => by
    by_cases c : SetTable.has t.dummies k = true
    · have : (t.put k).1.dummies = SetTable.eraseAt t.dummies (SetTable.below t.dummies k) := by
        show (if SetTable.has t.dummies k = true then _ else _) = _
        rw [if_pos c]
      rw [this, toList_erase] at hx
      unfold SetTable.has at c
      have c : t.dummies[SetTable.below t.dummies k]? = some k := by simpa using c
      obtain ⟨hl, ek⟩ := Array.getElem?_eq_some_iff.mp c
      have hl' : SetTable.below t.dummies k < t.dummies.toList.length := by simpa using hl
      have sp : t.dummies.toList = t.dummies.toList.take (SetTable.below t.dummies k) ++ k :: t.dummies.toList.drop (SetTable.below t.dummies k + 1) := by
        conv => lhs; rw [← List.take_append_drop (SetTable.below t.dummies k) t.dummies.toList, List.drop_eq_getElem_cons hl']
        have ek' : t.dummies.toList[SetTable.below t.dummies k] = k := by simpa using ek
        rw [ek']
      have nd := rs_nodup T.rd
      rw [sp, List.nodup_append, List.nodup_cons] at nd
      rcases List.mem_append.mp hx with hx | hx
      · exact ⟨List.mem_of_mem_take hx, fun z => nd.2.2 x hx k List.mem_cons_self z⟩
      · exact ⟨List.mem_of_mem_drop hx, fun z => nd.2.1.1 (z ▸ hx)⟩
    · have : (t.put k).1.dummies = t.dummies := by
        show (if SetTable.has t.dummies k = true then _ else _) = _
        rw [if_neg c]
      rw [this] at hx
      refine ⟨hx, fun z => c ?_⟩
      subst z
      unfold SetTable.has
      rw [mem_at T.rd hx]
      simp
  have ed2 : ∀ x ∈ t.dummies.toList, x = k ∨ x ∈ (t.put k).1.dummies.toList := fun x hx => by
    by_cases z : x = k
    · exact .inl z
    right
    show x ∈ (if SetTable.has t.dummies k = true then _ else _ : Array Nat).toList
    split
    · rename_i c
      unfold SetTable.has at c
      have c : t.dummies[SetTable.below t.dummies k]? = some k := by simpa using c
      obtain ⟨hl, ek⟩ := Array.getElem?_eq_some_iff.mp c
      have hl' : SetTable.below t.dummies k < t.dummies.toList.length := by simpa using hl
      have sp : t.dummies.toList = t.dummies.toList.take (SetTable.below t.dummies k) ++ k :: t.dummies.toList.drop (SetTable.below t.dummies k + 1) := by
        conv => lhs; rw [← List.take_append_drop (SetTable.below t.dummies k) t.dummies.toList, List.drop_eq_getElem_cons hl']
        have ek' : t.dummies.toList[SetTable.below t.dummies k] = k := by simpa using ek
        rw [ek']
      rw [sp] at hx
      rw [toList_erase]
      rcases List.mem_append.mp hx with hx | hx
      · exact List.mem_append_left _ hx
      · rcases List.mem_cons.mp hx with hx | hx
        · exact absurd hx z
        · exact List.mem_append_right _ hx
    · exact hx
  have memN : ∀ x ∈ t.place.toList ++ t.dummies.toList, x ∈ (t.put k).1.place.toList ++ (t.put k).1.dummies.toList := fun x hx => by
    rcases List.mem_append.mp hx with hx | hx
    · rw [ep]
      refine List.mem_append_left _ ?_
      rw [← List.take_append_drop (SetTable.below t.place k) t.place.toList] at hx
      rcases List.mem_append.mp hx with hx | hx
      · exact List.mem_append_left _ hx
      · exact List.mem_append_right _ (List.mem_cons_of_mem _ hx)
    · rcases ed2 x hx with rfl | hx
      · rw [ep]
        exact List.mem_append_left _ (List.mem_append_right _ List.mem_cons_self)
      · exact List.mem_append_right _ hx
  have sz := T.size
  refine ⟨⟨T.led, T.plain, T.mask, ?_, ?_, ?_, ?_, ?_⟩, by rw [e2]; omega⟩
  · rw [← Array.length_toList, ep, e2]
    simp
    omega
  · exact rs_insert T.rp hk
  · show Rs (if SetTable.has t.dummies k = true then _ else _ : Array Nat).toList
    split
    · exact rs_erase T.rd _
    · exact T.rd
  · intro x hx hd
    obtain ⟨d1, d2⟩ := ed x hd
    rw [ep] at hx
    rcases List.mem_append.mp hx with hx | hx
    · exact T.dj x (List.mem_of_mem_take hx) d1
    · rcases List.mem_cons.mp hx with hx | hx
      · exact d2 hx
      · exact T.dj x (List.mem_of_mem_drop hx) d1
  · intro q hq
    rw [ep, e2, List.zip_append (by rw [List.length_take, List.length_take]; simp; omega), List.zip_cons_cons] at hq
    rcases List.mem_append.mp hq with hq | hq
    · rw [← take_zip'] at hq
      exact (T.rc q (List.mem_of_mem_take hq)).mono memN
    · rcases List.mem_cons.mp hq with rfl | hq
      · exact hr.mono memN
      · rw [← drop_zip'] at hq
        exact (T.rc q (List.mem_of_mem_drop hq)).mono memN
theorem Tg.drop (T : Tg t b hs) {i : Nat} (hi : i < hs.length) : Tg (t.drop i) b (hs.take i ++ hs.drop (i + 1)) := by
  have hi' : i < t.place.size := by rw [T.size]; exact hi
  have hil : i < t.place.toList.length := by simpa using hi'
  have nd := rs_nodup T.rp
  have sp : t.place.toList = t.place.toList.take i ++ t.place[i] :: t.place.toList.drop (i + 1) := by
    conv => lhs; rw [← List.take_append_drop i t.place.toList, List.drop_eq_getElem_cons hil]
    simp
  have hin : t.place[i] ∈ t.place.toList := by
    rw [sp]
    simp
  have ep : (t.drop i).place.toList = t.place.toList.take i ++ t.place.toList.drop (i + 1) := by
    unfold SetTable.drop
    rw [Array.getElem?_eq_getElem hi']
    exact toList_erase _ _
  have ed : (t.drop i).dummies = SetTable.insertAt t.dummies (SetTable.below t.dummies t.place[i]) t.place[i] := by
    unfold SetTable.drop
    rw [Array.getElem?_eq_getElem hi']
  have emask : (t.drop i).mask = t.mask := by
    unfold SetTable.drop
    rw [Array.getElem?_eq_getElem hi']
  have eled : (t.drop i).led = t.led := by
    unfold SetTable.drop
    rw [Array.getElem?_eq_getElem hi']
  have epl : (t.drop i).plain = t.plain := by
    unfold SetTable.drop
    rw [Array.getElem?_eq_getElem hi']
  have edl : ∀ x, x ∈ (t.drop i).dummies.toList ↔ x = t.place[i] ∨ x ∈ t.dummies.toList := fun x => by
    rw [ed, SetTable.toList_insertAt, List.mem_append, List.mem_cons]
    conv => rhs; rw [← List.take_append_drop (SetTable.below t.dummies t.place[i]) t.dummies.toList, List.mem_append]
    constructor
    · rintro (h | h | h)
      · exact .inr (.inl h)
      · exact .inl h
      · exact .inr (.inr h)
    · rintro (h | h | h)
      · exact .inr (.inl h)
      · exact .inl h
      · exact .inr (.inr h)
  have memN : ∀ x ∈ t.place.toList ++ t.dummies.toList, x ∈ (t.drop i).place.toList ++ (t.drop i).dummies.toList := fun x hx => by
    rw [List.mem_append, edl, ep]
    rcases List.mem_append.mp hx with hx | hx
    · rw [sp] at hx
      rcases List.mem_append.mp hx with hx | hx
      · exact .inl (List.mem_append_left _ hx)
      · rcases List.mem_cons.mp hx with hx | hx
        · exact .inr (.inl hx)
        · exact .inl (List.mem_append_right _ hx)
    · exact .inr (.inr hx)
  have sz := T.size
  refine ⟨by rw [eled]; exact T.led, by rw [epl]; exact T.plain, by rw [emask]; exact T.mask, ?_, ?_, ?_, ?_, ?_⟩
  · rw [← Array.length_toList, ep]
    simp
    omega
  · rw [ep, ← toList_erase]
    exact rs_erase T.rp i
  · rw [ed]
    exact rs_insert T.rd (T.dj _ hin)
  · intro x hx hd
    rw [ep] at hx
    rw [sp, List.nodup_append, List.nodup_cons] at nd
    rcases (edl x).mp hd with hd | hd
    · rcases List.mem_append.mp hx with hx | hx
      · exact nd.2.2 x hx _ List.mem_cons_self hd
      · exact nd.2.1.1 (by rw [← hd]; exact hx)
    · refine T.dj x ?_ hd
      rcases List.mem_append.mp hx with hx | hx
      · exact List.mem_of_mem_take hx
      · exact List.mem_of_mem_drop hx
  · intro q hq
    rw [ep, List.zip_append (by rw [List.length_take, List.length_take]; simp; omega)] at hq
    rw [emask]
    refine (T.rc q ?_).mono memN
    rcases List.mem_append.mp hq with hq | hq
    · rw [← take_zip'] at hq
      exact List.mem_of_mem_take hq
    · rw [← drop_zip'] at hq
      exact List.mem_of_mem_drop hq
end
end ST
set_option Elab.async false
set_option linter.all false
set_option maxRecDepth 100000
set_option maxHeartbeats 4000000
namespace ST
open PySem
theorem free_road {mask : Nat} {ow : Array (Option Nat)} (hsz : ow.size = mask + 1) : ∀ (fuel i p : Nat) {j : Nat}, i ≤ mask → SetTable.layClean.free mask ow fuel i p = some j → ∃ pre suf, visit mask (10 * fuel) (blk mask i p) = pre ++ j :: suf ∧ ∀ x ∈ pre, ∃ v, ow[x]? = some (some v)
  | 0, i, p, j, _, e => by cases e
  | fuel + 1, i, p, j, hi, e => by
    have hre : i ≤ SetTable.runEnd mask i ∧ SetTable.runEnd mask i ≤ mask := by
      unfold SetTable.runEnd
      split <;> omega
    have occ : ∀ k, i + k ≤ mask → (ow.getD (i + k) (some 0)).isNone = false → ∃ v, ow[i + k]? = some (some v) := fun k hk h => by
      have hl : i + k < ow.size := by omega
      rw [Array.getD_eq_getD_getElem?, Array.getElem?_eq_getElem hl] at h
      rw [Array.getElem?_eq_getElem hl]
      cases hv : ow[i + k] with
      | none => rw [hv] at h; cases h
      | some v => exact ⟨v, rfl⟩
    obtain ⟨r, er⟩ := visit_blk (mask := mask) (n := fuel) (i := i) (p := p)
    unfold SetTable.layClean.free at e
    cases hf : (List.range (SetTable.runEnd mask i + 1 - i)).find? fun k => (ow.getD (i + k) (some 0)).isNone with
    | some k =>
      rw [hf] at e
      injection e with e
      subst e
      obtain ⟨h1, h2, h3⟩ := List.find?_range_eq_some.mp hf
      have hk : k < SetTable.runEnd mask i + 1 - i := List.mem_range.mp h2
      refine ⟨(List.range k).map (fun k => i + k), (List.range (SetTable.runEnd mask i + 1 - i - (k + 1))).map (fun m => i + (k + 1 + m)) ++ (visit mask (10 * fuel) (blk mask (SetTable.leap mask i p).1 (SetTable.leap mask i p).2) ++ r), ?_, fun x hx => ?_⟩
      · rw [er, List.append_assoc]
        have : List.range (SetTable.runEnd mask i + 1 - i) = List.range k ++ k :: (List.range (SetTable.runEnd mask i + 1 - i - (k + 1))).map (fun m => k + 1 + m) := by
          conv => lhs; rw [show SetTable.runEnd mask i + 1 - i = (k + 1) + (SetTable.runEnd mask i + 1 - i - (k + 1)) by omega, List.range_add]
          rw [List.range_succ, List.append_assoc]
          rfl
        rw [this, List.map_append, List.map_cons, List.map_map, List.append_assoc]
        rfl
      · obtain ⟨k', hk', rfl⟩ := List.mem_map.mp hx
        have hk' := List.mem_range.mp hk'
        refine occ k' (by omega) ?_
        have := h3 k' hk'
        simpa using this
    | none =>
      rw [hf] at e
      have e : SetTable.layClean.free mask ow fuel (SetTable.leap mask i p).1 (SetTable.leap mask i p).2 = some j := e
      have hl : (SetTable.leap mask i p).1 ≤ mask := by
        have : (i * 5 + 1 + p / 32) % (mask + 1) < mask + 1 := Nat.mod_lt _ (by omega)
        show (i * 5 + 1 + p / 32) % (mask + 1) ≤ mask
        omega
      obtain ⟨pre, suf, e2, g⟩ := free_road hsz fuel _ _ hl e
      refine ⟨(List.range (SetTable.runEnd mask i + 1 - i)).map (fun k => i + k) ++ pre, suf ++ r, by rw [er, e2]; simp, fun x hx => ?_⟩
      rcases List.mem_append.mp hx with hx | hx
      · obtain ⟨k', hk', rfl⟩ := List.mem_map.mp hx
        have := List.find?_eq_none.mp hf k' hk'
        have hk' := List.mem_range.mp hk'
        exact occ k' (by omega) (Bool.eq_false_iff.mpr this)
      · exact g x hx
theorem fold_any {mask : Nat} (hm : mask ∈ masks) : ∀ (hs : List Int) {ow : Array (Option Nat)} {js : List Nat} {dn : List Int}, Own mask ow js → js.length = dn.length → (∀ (i : Nat) h j, dn[i]? = some h → js[i]? = some j → Reach mask js h j) → js.length + hs.length ≤ mask + 1 →
    ∃ ow' js', hs.foldl (stepC mask) (some (ow, js.length)) = some (ow', js'.length) ∧ Own mask ow' js' ∧ js'.length = js.length + hs.length ∧ ∀ (i : Nat) h j, (dn ++ hs)[i]? = some h → js'[i]? = some j → Reach mask js' h j
  | [], ow, js, dn, O, hl, hr, _ => ⟨ow, js, rfl, O, rfl, by rw [List.append_nil]; exact hr⟩
  | h :: hs, ow, js, dn, O, hl, hr, hle => by
    have hl' : js.length + (hs.length + 1) ≤ mask + 1 := hle
    have hi : SetTable.bits h % (mask + 1) ≤ mask := by
      have := Nat.mod_lt (SetTable.bits h) (show 0 < mask + 1 by omega)
      omega
    obtain ⟨j0, hj0, e0⟩ := O.full (by omega)
    obtain ⟨j, hj⟩ : ∃ j, SetTable.layClean.free mask ow (SetTable.turns mask) (SetTable.bits h % (mask + 1)) (SetTable.bits h) = some j := by
      cases e : SetTable.layClean.free mask ow (SetTable.turns mask) (SetTable.bits h % (mask + 1)) (SetTable.bits h) with
      | some j => exact ⟨j, rfl⟩
      | none => exact absurd e0 (free_none _ _ _ e j0 (cov_any hm hi (bits_lt h) hj0))
    have O' := O.put (free_some _ _ _ hj)
    obtain ⟨pre, suf, er, go⟩ := free_road O.size _ _ _ hi hj
    have hr' : ∀ (i : Nat) h' j', (dn ++ [h])[i]? = some h' → (js ++ [j])[i]? = some j' → Reach mask (js ++ [j]) h' j' := fun i h' j' h1 h2 => by
      rcases Nat.lt_or_ge i js.length with c | c
      · rw [List.getElem?_append_left (by omega)] at h1
        rw [List.getElem?_append_left c] at h2
        exact (hr i h' j' h1 h2).mono fun x hx => List.mem_append_left _ hx
      · rw [List.getElem?_append_right (by omega)] at h1
        rw [List.getElem?_append_right c] at h2
        rw [hl] at h2
        have z : i - dn.length = 0 := by
          have := (List.getElem?_eq_some_iff.mp h1).1
          simp at this
          omega
        rw [z] at h1 h2
        cases h1
        cases h2
        refine ⟨pre, suf, er, fun x hx => ?_⟩
        obtain ⟨v, hv⟩ := go x hx
        exact List.mem_append_left _ (List.mem_of_getElem? ((O.at' x v).mp hv))
    obtain ⟨ow', js', e', O2, l2, r2⟩ := fold_any hm hs O' (dn := dn ++ [h]) (by simp [hl]) hr' (by rw [List.length_append]; show js.length + 1 + hs.length ≤ mask + 1; omega)
    refine ⟨ow', js', ?_, O2, by rw [l2, List.length_append]; show js.length + 1 + hs.length = js.length + (hs.length + 1); omega, fun i h' j' h1 h2 => r2 i h' j' (by rw [List.append_assoc]; exact h1) h2⟩
    rw [List.foldl_cons, ← e']
    congr 1
    unfold stepC
    rw [List.length_append]
    show (do let j ← SetTable.layClean.free mask ow (SetTable.turns mask) (SetTable.bits h % (mask + 1)) (SetTable.bits h); pure (ow.setIfInBounds j (some js.length), js.length + 1)) = _
    rw [hj]
    rfl
theorem zip_live {hs : List Int} : ∀ {L : List (Nat × Nat)}, (∀ q ∈ L, q.2 < hs.length) → ∀ x ∈ (L.map (·.1)).zip ((L.map (·.2)).filterMap (hs[·]?)), ∃ q ∈ L, x.1 = q.1 ∧ hs[q.2]? = some x.2
  | [], _, x, hx => by simp at hx
  | q :: L, h, x, hx => by
    have hq := h q List.mem_cons_self
    rw [List.map_cons, List.map_cons, List.filterMap_cons, List.getElem?_eq_getElem hq] at hx
    dsimp only at hx
    rw [List.zip_cons_cons] at hx
    rcases List.mem_cons.mp hx with rfl | hx
    · exact ⟨q, List.mem_cons_self, rfl, List.getElem?_eq_getElem hq⟩
    · obtain ⟨q', h1, h2⟩ := zip_live (fun q' hq' => h q' (List.mem_cons_of_mem _ hq')) x hx
      exact ⟨q', List.mem_cons_of_mem _ h1, h2⟩
theorem laid_any {mask finger moves : Nat} {led : Bool} {hs : Array Int} (hm : mask ∈ masks) (hl : hs.size ≤ mask) :
    ∃ t o, SetTable.laid mask finger moves led true hs = some (t, o) ∧ o.toList.Perm (List.range hs.size) ∧ t.fits hs.size = true ∧ Tg t led (o.toList.filterMap (hs.toList[·]?)) ∧ t.mask = mask ∧ t.dummies = #[] := by
  obtain ⟨ow, js, e, O, l, r⟩ := fold_any hm hs.toList (dn := []) (Own.start mask) rfl (fun i h j z => by simp at z) (by simp; omega)
  have l : js.length = hs.size := by simpa using l
  rw [List.nil_append] at r
  have ec : SetTable.layClean mask hs = some ow := by
    unfold SetTable.layClean
    rw [← Array.foldl_toList]
    have e : hs.toList.foldl (stepC mask) (some (Array.replicate (mask + 1) none, 0)) = some (ow, js.length) := e
    show Option.map _ (hs.toList.foldl (stepC mask) (some (Array.replicate (mask + 1) none, 0))) = _
    rw [e]
    rfl
  have at2 : ∀ j i, ow.getD j none = some i ↔ js[i]? = some j := fun j i => by
    rw [← O.at' j i, Array.getD_eq_getD_getElem?]
    cases ow[j]? with
    | none => simp
    | some v => simp
  have hp : (List.map (fun p : Nat × Nat => p.2) ((List.range (mask + 1)).filterMap fun j => (ow.getD j none).map (j, ·))).Perm (List.range hs.size) := by
    show (List.map (fun p : Nat × Nat => p.2) ((List.range (mask + 1)).filterMap fun j => (ow.getD j none).map (j, ·))).Perm _
    rw [List.map_filterMap]
    have ef : (fun j => Option.map (fun p : Nat × Nat => p.2) ((ow.getD j none).map (j, ·))) = fun j => ow.getD j none := by
      funext j
      cases ow.getD j none <;> rfl
    rw [ef]
    refine (List.perm_ext_iff_of_nodup ?_ List.nodup_range).mpr fun i => ?_
    · refine List.Pairwise.filterMap _ ?_ (List.nodup_range (n := mask + 1))
      intro a a' haa b hb b' hb' e
      subst e
      have h1 := (at2 a b).mp hb
      have h2 := (at2 a' b).mp hb'
      rw [h1] at h2
      injection h2 with h2
      exact haa h2
    · rw [List.mem_filterMap, List.mem_range]
      constructor
      · rintro ⟨j, _, hj⟩
        have := (List.getElem?_eq_some_iff.mp ((at2 j i).mp hj)).1
        omega
      · intro hi
        have hi' : i < js.length := by omega
        refine ⟨js[i], List.mem_range.mpr ?_, (at2 _ i).mpr (List.getElem?_eq_getElem hi')⟩
        have := O.le _ (List.getElem_mem hi')
        omega
  have ln := hp.length_eq
  rw [List.length_map, List.length_range] at ln
  have inL : ∀ q : Nat × Nat, q ∈ ((List.range (mask + 1)).filterMap fun j => (ow.getD j none).map (j, ·)) ↔ js[q.2]? = some q.1 := fun q => by
    rw [List.mem_filterMap]
    constructor
    · rintro ⟨j, _, hj⟩
      rw [Option.map_eq_some_iff] at hj
      obtain ⟨i, hi, rfl⟩ := hj
      exact (at2 j i).mp hi
    · intro h
      have := O.le _ (List.mem_of_getElem? h)
      exact ⟨q.1, List.mem_range.mpr (by omega), by rw [(at2 q.1 q.2).mpr h]; rfl⟩
  have el : SetTable.laid mask finger moves led true hs = some ({ mask := mask, place := (((List.range (mask + 1)).filterMap fun j => (ow.getD j none).map (j, ·)).map (·.1)).toArray, dummies := #[], finger := finger, led := led, moves := moves, plain := true }, (((List.range (mask + 1)).filterMap fun j => (ow.getD j none).map (j, ·)).map (·.2)).toArray) := by
    unfold SetTable.laid
    rw [ec]
    rfl
  have tb := (laid_tb el).1
  refine ⟨_, _, el, hp, ?_, ?_, rfl, rfl⟩
  · simp only [SetTable.fits, SetTable.fill, Bool.and_eq_true, beq_iff_eq, decide_eq_true_eq, List.size_toArray, List.length_map]
    constructor
    · exact ln
    · rw [ln]
      exact hl
  · have lt : ∀ q ∈ ((List.range (mask + 1)).filterMap fun j => (ow.getD j none).map (j, ·)), q.2 < hs.toList.length := fun q hq => by
      have := (List.getElem?_eq_some_iff.mp ((inL q).mp hq)).1
      rw [Array.length_toList, ← l]
      exact this
    refine ⟨rfl, rfl, hm, ?_, tb.ris, List.Pairwise.nil, by simp, fun x hx => ?_⟩
    · show (List.toArray _).size = _
      rw [List.size_toArray, List.length_map]
      generalize ((List.range (mask + 1)).filterMap fun j => (ow.getD j none).map (j, ·)) = L at lt
      show L.length = ((L.map (·.2)).filterMap (hs.toList[·]?)).length
      clear ln hp inL el tb
      induction L with
      | nil => rfl
      | cons q L ih =>
        rw [List.map_cons, List.filterMap_cons, List.getElem?_eq_getElem (lt q List.mem_cons_self)]
        dsimp only
        rw [List.length_cons, List.length_cons, ih fun q' hq' => lt q' (List.mem_cons_of_mem _ hq')]
    · obtain ⟨q, hq, e1, e2⟩ := zip_live lt x hx
      have hj := (inL q).mp hq
      rw [e1]
      refine (r q.2 x.2 q.1 e2 hj).mono fun y hy => ?_
      obtain ⟨i, hi⟩ := List.getElem?_of_mem hy
      show y ∈ (List.map (fun q : Nat × Nat => q.1) _) ++ _
      exact List.mem_append_left _ (List.mem_map.mpr ⟨(y, i), (inL (y, i)).mpr hi, rfl⟩)
end ST
set_option Elab.async false
set_option linter.all false
set_option maxRecDepth 100000
set_option maxHeartbeats 4000000
namespace L2
open PySem PySem.Spec PyProof.Rows PySem.W
def th (p : Nat × Nat) : Int := reduceHash (Builtin.Tuple.tupleHashOf [hashInt (p.1 : Int), hashInt (p.2 : Int)])
def ths : List Int := (List.range 256).map fun n => th (n / 16, n % 16)
theorem ths_nodup : ths.Nodup := by decide +kernel
theorem th_inj {p q : Nat × Nat} (hp : p.1 < 16 ∧ p.2 < 16) (hq : q.1 < 16 ∧ q.2 < 16) (e : th p = th q) : p = q := by
  have at' : ∀ r : Nat × Nat, r.1 < 16 ∧ r.2 < 16 → ths[r.1 * 16 + r.2]? = some (th r) := fun r hr => by
    unfold ths
    rw [List.getElem?_map, List.getElem?_range (by omega)]
    have h1 : (r.1 * 16 + r.2) / 16 = r.1 := by omega
    have h2 : (r.1 * 16 + r.2) % 16 = r.2 := by omega
    show some (th ((r.1 * 16 + r.2) / 16, (r.1 * 16 + r.2) % 16)) = _
    rw [h1, h2]
  have a1 := at' p hp
  have a2 := at' q hq
  rw [e] at a1
  obtain ⟨l1, e1⟩ := List.getElem?_eq_some_iff.mp a1
  obtain ⟨l2, e2⟩ := List.getElem?_eq_some_iff.mp a2
  have := nd_inj2 ths_nodup l1 l2 (by rw [e1, e2])
  exact Prod.ext (by omega) (by omega)
end L2
set_option Elab.async false
set_option linter.all false
set_option maxRecDepth 100000
set_option maxHeartbeats 4000000
namespace L2
open PySem PySem.Spec PyProof.Rows PySem.W
abbrev Pad := (Nat × Nat) × Addr
def pent (x : Pad) : Int × Value := (th x.1, .ref x.2)
theorem pent_fst (x : Pad) : (pent x).1 = th x.1 := rfl
theorem pent_snd (x : Pad) : (pent x).2 = .ref x.2 := rfl
def PrT (h : Heap) (p : Nat × Nat) (b : Addr) : Prop := ∃ o k tx ty, h.get? b = some o ∧ o.cls = .type "tuple" ∧ o.data = .seq #[.int (p.1 : Int) tx, .int (p.2 : Int) ty] k
theorem PrT.at {h h' : Heap} {p : Nat × Nat} {b : Addr} (x : PrT h p b) (k : ∀ o, h.get? b = some o → h'.get? b = some o) : PrT h' p b := let ⟨o, n, tx, ty, e, r⟩ := x; ⟨o, n, tx, ty, k o e, r⟩
theorem PrT.key {prog : Program} {w : World} {h : Heap} {p : Nat × Nat} {b : Addr} (x : PrT h p b) : IsTupleKey (intKind prog w) h [(p.1 : Int), (p.2 : Int)] b := by
  obtain ⟨o, n, tx, ty, e, c, d⟩ := x
  exact ⟨o, _, n, e, c, d, .cons (intKind_is _ _ _ _) (.cons (intKind_is _ _ _ _) .nil)⟩
theorem th_eq (prog : Program) (w : World) (p : Nat × Nat) : tupleKeyHash (intKind prog w) [(p.1 : Int), (p.2 : Int)] = th p := rfl
structure SetP (w : World) (h : Heap) (a : Addr) (xs : List Pad) : Prop where
  ex : ∃ o ep t, h.get? a = some o ∧ o.ExactSet ∧ o.data = .set (xs.map pent).toArray ep t ∧ t.fits xs.length = true ∧ ST.Tg t (!byT w) (xs.map fun x => th x.1) ∧ t.fill * 5 < t.mask * 3
  nd : (xs.map (·.1)).Nodup
  bd : ∀ x ∈ xs, x.1.1 < 16 ∧ x.1.2 < 16
theorem SetP.at {w : World} {h h' : Heap} {a : Addr} {xs : List Pad} (S : SetP w h a xs) (k : ∀ o, h.get? a = some o → h'.get? a = some o) : SetP w h' a xs := by
  obtain ⟨o, ep, t, g, r⟩ := S.ex
  exact ⟨⟨o, ep, t, k o g, r⟩, S.nd, S.bd⟩
theorem hs_nodup {xs : List Pad} (nd : (xs.map (·.1)).Nodup) (bd : ∀ x ∈ xs, x.1.1 < 16 ∧ x.1.2 < 16) : (xs.map fun x => th x.1).Nodup := by
  rw [List.nodup_iff_pairwise_ne, List.pairwise_map] at nd ⊢
  exact List.Pairwise.imp_of_mem (fun {a b} ha hb h e => h (th_inj (bd a ha) (bd b hb) e)) nd
theorem hs_mem {xs : List Pad} (bd : ∀ x ∈ xs, x.1.1 < 16 ∧ x.1.2 < 16) {p : Nat × Nat} (hp : p.1 < 16 ∧ p.2 < 16) (hn : p ∉ xs.map (·.1)) : th p ∉ xs.map fun x => th x.1 := fun h => by
  obtain ⟨x, hx, e⟩ := List.mem_map.mp h
  exact hn (List.mem_map.mpr ⟨x, hx, (th_inj (bd x hx) hp e)⟩)
theorem odd_mask : ∀ m ∈ ST.masks, (m % 2 == 0) = false := by decide
def Tps (h : Heap) (xs : List Pad) : Prop := ∀ x ∈ xs, PrT h x.1 x.2
section
variable {prog : Program} {w : World} {A : Around} {E : Value → Shared → Prop} {s : Shared} {a b : Addr} {xs : List Pad} {p : Nat × Nat}
theorem seen_no {l : List Value} {Q : Bool → Shared → Prop} (hb : PrT s.heap p b) (hl : ∀ v ∈ l, ∃ q c, v = .ref c ∧ PrT s.heap q c) (h : Q false s) : wpAny (model prog w) A (searchCouldBeSeen (.ref b) l) Q E s := by
  have cls : ∀ {q : Nat × Nat} {c : Addr} {Q' : Bool → Shared → Prop}, PrT s.heap q c → Q' false s → wpAny (model prog w) A (ofAClassStatement 8 (.ref c)) Q' E s := fun {q c Q'} hc hq => by
    have T := (hc.key (prog := prog) (w := w)).typeIs
    obtain ⟨o, n, tx, ty, g, cl, d⟩ := hc
    unfold ofAClassStatement
    refine wpAny_bind (wpAny_typeOf T ?_)
    dsimp only
    rw [if_pos (by decide)]
    refine wpAny_bind (wpAny_pure ?_)
    rw [if_neg (by decide)]
    refine wpAny_bind (wpAny_seqItems g d ?_)
    dsimp only
    refine wpAny_bind (MeetsSeq2.wpAny_forIn_array _ (fun rest r s' => r = (none, ()) ∧ s' = s ∧ ∀ v ∈ rest, ∃ i t, v = Value.int i t) _ ?_ ?_ _ _ ⟨rfl, rfl, fun v hv => ?_⟩)
    · rintro v rest r s' ⟨rfl, rfl, hv⟩
      obtain ⟨i, t, rfl⟩ := hv v List.mem_cons_self
      exact wpAny_bind (wpAny_pure (wpAny_pure ⟨rfl, rfl, fun u hu => hv u (List.mem_cons_of_mem _ hu)⟩))
    · rintro r s' ⟨rfl, rfl, _⟩
      exact wpAny_pure hq
    · simp at hv
      rcases hv with rfl | rfl <;> exact ⟨_, _, rfl⟩
  unfold searchCouldBeSeen
  refine wpAny_bind (wpAny_forIn_list _ (fun rest r s' => r = (none, ()) ∧ s' = s ∧ ∀ v ∈ rest, ∃ q c, v = .ref c ∧ PrT s.heap q c) _ ?_ ?_ l _ ⟨rfl, rfl, hl⟩)
  · rintro v rest r s' ⟨rfl, rfl, hv⟩
    obtain ⟨q, c, rfl, hc⟩ := hv v List.mem_cons_self
    have hr : ∀ u ∈ rest, ∃ q c, u = .ref c ∧ PrT s'.heap q c := fun u hu => hv u (List.mem_cons_of_mem _ hu)
    dsimp only
    by_cases e : (b == c || carriedByValue (Value.ref b) && carriedByValue (Value.ref c)) = true
    · rw [if_pos e]
      exact wpAny_pure ⟨rfl, rfl, hr⟩
    · rw [if_neg e]
      refine wpAny_bind (wpAny_eqIsQuiet_tuple (hb.key (prog := prog) (w := w)) ?_)
      rw [if_neg (by decide)]
      refine wpAny_bind (wpAny_eqIsQuiet_tuple (hc.key (prog := prog) (w := w)) ?_)
      rw [if_neg (by decide)]
      refine wpAny_bind (cls hb ?_)
      rw [if_neg (by decide)]
      refine wpAny_bind (cls hc ?_)
      rw [if_neg (by decide)]
      exact wpAny_pure ⟨rfl, rfl, hr⟩
  · rintro r s' ⟨rfl, rfl, _⟩
    exact wpAny_pure h
theorem ent_get {xs : List Pad} {i : Nat} : (xs.map pent).toArray[i]? = (xs[i]?).map pent := by
  rw [List.getElem?_toArray, List.getElem?_map]
theorem ent_hash {xs : List Pad} (i : Nat) (h : Int) (e : (xs.map fun x => th x.1)[i]? = some h) : (((xs.map pent).toArray[i]?).map (·.1)).getD 0 = h := by
  rw [ent_get]
  rw [List.getElem?_map] at e
  cases hx : xs[i]? with
  | none => rw [hx] at e; cases e
  | some x =>
    rw [hx, Option.map_some] at e
    have e2 := Option.some.inj e
    rw [Option.map_some, Option.map_some, Option.getD_some, pent_fst, e2]
theorem stored_refs {xs : List Pad} (T : Tps s.heap xs) (h : Int) : ∀ v ∈ ((xs.map pent).toArray.filter (·.1 == h)).toList.map (·.2), ∃ q c, v = .ref c ∧ PrT s.heap q c := fun v hv => by
  obtain ⟨e, he, rfl⟩ := List.mem_map.mp hv
  rw [Array.toList_filter, List.mem_filter] at he
  obtain ⟨x, hx, rfl⟩ := List.mem_map.mp he.1
  exact ⟨x.1, x.2, rfl, T x hx⟩
theorem sp_hit {i : Nat} {c : Addr} {adding : Bool} {Q : SetFound → Shared → Prop} (hu : A.units < cLine) (S : SetP w s.heap a xs) (T : Tps s.heap xs) (hb : PrT s.heap p b) (hp : p.1 < 16 ∧ p.2 < 16) (hi : xs[i]? = some (p, c)) (h : Q (.there (if adding = true then none else some i)) s) : wpAny (model prog w) A (setSearch a (.ref b) (th p) adding) Q E s := by
  obtain ⟨o, ep, t, ho, hex, hd, hf, hT, hr⟩ := S.ex
  have hf' : t.fits (xs.map pent).toArray.size = true := by simpa using hf
  have hh : (xs.map fun x => th x.1)[i]? = some (th p) := by rw [List.getElem?_map, hi]; rfl
  obtain ⟨j, nx, ej, sl⟩ := hT.find (hs_nodup S.nd S.bd) (f := fun i => (((xs.map pent).toArray[i]?).map (·.1)).getD 0) ent_hash hh
  have hc : PrT s.heap p c := T (p, c) (List.mem_of_getElem? hi)
  unfold setSearch setSearchFrom
  refine wpAny_bind (wpAny_setState_of ho hd hf' ?_)
  dsimp only
  rw [if_neg (by unfold SetTable.gaveWay; rw [odd_mask _ hT.mask]; decide)]
  split
  · rename_i met hm
    have e := ej.symm.trans hm
    cases e
    dsimp only
    by_cases hl : (!t.led) = true
    rw [if_pos hl]
    refine wpAny_bind (seen_no hb (stored_refs T _) ?_)
    rw [if_neg (by decide)]
    rotate_left 1
    rw [if_neg hl]
    all_goals
      rw [ent_get, hi, Option.map_some]
      dsimp only [pent]
      refine wpAny_bind (wpAny_holding (wpAny_eqBool_tuple hu (hc.key (prog := prog) (w := w)) hb.key ?_))
      rw [decide_eq_true rfl]
      refine wpAny_bind (wpAny_setState_of ho hd hf' ?_)
      dsimp only
      cases adding with
      | true =>
        rw [if_pos rfl] at h
        rw [if_pos (by decide)]
        exact wpAny_pure h
      | false =>
        rw [if_neg (by decide)] at h
        rw [if_neg (by decide)]
        have sm : t.sameMemory t.moves t.mask = some true := by
          unfold SetTable.sameMemory
          rw [if_pos (by simp)]
        rw [sm]
        dsimp only
        rw [if_pos rfl, sl]
        dsimp only
        rw [ent_get, hi, Option.map_some]
        dsimp only [pent]
        refine wpAny_bind (wpAny_isSame_ref_self ?_)
        rw [if_pos rfl]
        refine wpAny_bind (wpAny_pure ?_)
        dsimp only
        rw [if_pos rfl]
        exact wpAny_pure h
  · rename_i hm
    exact absurd ej (hm _)
theorem sp_miss {adding : Bool} {Q : SetFound → Shared → Prop} (S : SetP w s.heap a xs) (hp : p.1 < 16 ∧ p.2 < 16) (hn : p ∉ xs.map (·.1))
    (h : ∀ o ep t, s.heap.get? a = some o → o.ExactSet → o.data = .set (xs.map pent).toArray ep t → t.fits xs.length = true → ST.Tg t (!byT w) (xs.map fun x => th x.1) → t.fill * 5 < t.mask * 3 → ∀ k wd, (wd = true → SetTable.has t.dummies k = true) → (wd = false → SetTable.has t.dummies k = false) → k ∉ t.place.toList → ST.Reach t.mask (t.place.toList ++ t.dummies.toList) (th p) k → Q (.free k wd) s) : wpAny (model prog w) A (setSearch a (.ref b) (th p) adding) Q E s := by
  obtain ⟨o, ep, t, ho, hex, hd, hf, hT, hr⟩ := S.ex
  have hf' : t.fits (xs.map pent).toArray.size = true := by simpa using hf
  have g := ST.mask_ge hT.mask
  obtain ⟨j, d, ej, h1, h2, h3, h4⟩ := hT.miss (f := fun i => (((xs.map pent).toArray[i]?).map (·.1)).getD 0) ent_hash (hs_mem S.bd hp hn) (by omega)
  unfold setSearch setSearchFrom
  refine wpAny_bind (wpAny_setState_of ho hd hf' ?_)
  dsimp only
  rw [if_neg (by unfold SetTable.gaveWay; rw [odd_mask _ hT.mask]; decide)]
  split
  · rename_i met hm
    have e := ej.symm.trans hm
    cases e
    dsimp only
    cases d with
    | none => exact wpAny_pure (h o ep t ho hex hd hf hT hr j false (fun z => by cases z) (fun _ => h2 rfl) h3 h4)
    | some k =>
      have hk := h1 k rfl
      dsimp only
      rw [if_neg (by rw [hk]; simp)]
      exact wpAny_pure (h o ep t ho hex hd hf hT hr k true (fun _ => (ST.slot_dummy hk).1) (fun z => by cases z) h3 h4)
  · rename_i hm
    exact absurd ej (hm _)
theorem not_scan {xs : List Pad} {b : Addr} : byScan (.ref b) (xs.map pent).toArray = false := by
  unfold byScan
  rfl
theorem sp_find {Q : Option Nat → Shared → Prop} (hu : A.units < cLine) (S : SetP w s.heap a xs) (T : Tps s.heap xs) (hb : PrT s.heap p b) (hp : p.1 < 16 ∧ p.2 < 16) (hn : p ∉ xs.map (·.1) → Q none s) (hy : ∀ (i : Nat) c, xs[i]? = some (p, c) → Q (some i) s) : wpAny (model prog w) A (setFind a (.ref b) (th p)) Q E s := by
  obtain ⟨o, ep, t, ho, hex, hd, hf, hT, hr⟩ := id S.ex
  have hf' : t.fits (xs.map pent).toArray.size = true := by simpa using hf
  unfold setFind setFindIn
  refine wpAny_bind (wpAny_setState_of ho hd hf' ?_)
  dsimp only
  rw [if_neg (by rw [not_scan]; decide)]
  by_cases c : p ∈ xs.map (·.1)
  · obtain ⟨x, hx, rfl⟩ := List.mem_map.mp c
    obtain ⟨i, hi⟩ := List.getElem?_of_mem hx
    exact wpAny_bind (sp_hit hu S T hb hp hi (wpAny_pure (hy i x.2 hi)))
  · exact wpAny_bind (sp_miss S hp c fun _ _ _ _ _ _ _ _ _ k wd _ _ _ _ => wpAny_pure (hn c))
end
end L2
set_option Elab.async false
set_option linter.all false
set_option maxRecDepth 100000
set_option maxHeartbeats 4000000
namespace L2
open PySem PySem.Spec PyProof.Rows PySem.W
theorem filterMap_at {α β : Type} (f : α → β) (xs : List α) : ∀ l : List Nat, l.filterMap ((xs.map f)[·]?) = (l.filterMap (xs[·]?)).map f
  | [] => rfl
  | i :: l => by
    rw [List.filterMap_cons, List.filterMap_cons, List.getElem?_map, filterMap_at f xs l]
    cases xs[i]? <;> rfl
theorem drop_fill {t : SetTable} {i : Nat} (hi : i < t.place.size) : (t.drop i).fill = t.fill ∧ (t.drop i).mask = t.mask := by
  have sz : ∀ (x : Nat), (SetTable.insertAt t.dummies x (t.place[i])).size = t.dummies.size + 1 := fun x => by
    rw [← Array.length_toList, SetTable.toList_insertAt]
    simp
    omega
  have sz2 : (SetTable.eraseAt t.place i).size = t.place.size - 1 := by
    rw [← Array.length_toList, ST.toList_erase]
    simp
    omega
  unfold SetTable.drop
  rw [Array.getElem?_eq_getElem hi]
  refine ⟨?_, rfl⟩
  show (SetTable.eraseAt t.place i).size + (SetTable.insertAt t.dummies _ t.place[i]).size = t.place.size + t.dummies.size
  rw [sz2, sz]
  omega
theorem grow_okP : ∀ n < 64, 1 ≤ n → SetTable.sizeAbove (SetTable.grown n) - 1 ∈ ST.masks ∧ n * 5 < (SetTable.sizeAbove (SetTable.grown n) - 1) * 3 ∧ SetTable.sizeAbove (SetTable.grown n) ≤ 256 := by decide
theorem room_okP : ∀ n < 64, (0 + n) * 5 ≥ 7 * 3 → SetTable.sizeAbove ((0 + n) * 2) - 1 ∈ ST.masks ∧ n * 5 < (SetTable.sizeAbove ((0 + n) * 2) - 1) * 3 ∧ SetTable.sizeAbove ((0 + n) * 2) ≤ 256 := by decide
section
variable {prog : Program} {w : World} {A : Around} {E : Value → Shared → Prop} {s : Shared} {a b : Addr} {xs : List Pad} {p : Nat × Nat}
def SetQ (h : Heap) (a : Addr) (xs : List Pad) (t : SetTable) : Prop := ∃ o ep, h.get? a = some o ∧ o.ExactSet ∧ o.data = .set (xs.map pent).toArray ep t
theorem setq_put {h : Heap} {xs ys : List Pad} {t t' : SetTable} (g : SetQ h a xs t) : SetQ (h.update a (Obj.putSet (ys.map pent).toArray t')) a ys t' := by
  obtain ⟨o, ep, ho, hex, hd⟩ := g
  refine ⟨{ o with data := .set (ys.map pent).toArray (ep + 1) t' }, _, ?_, hex, rfl⟩
  have := Heap.get?_update_self (Obj.putSet (ys.map pent).toArray t') ho (by rw [putSet_of _ _ hd]; rfl)
  rw [putSet_of _ _ hd] at this
  exact this
theorem SetQ.setP {h : Heap} {t : SetTable} (g : SetQ h a xs t) (hf : t.fits xs.length = true) (hT : ST.Tg t (!byT w) (xs.map fun x => th x.1)) (hr : t.fill * 5 < t.mask * 3) (nd : (xs.map (·.1)).Nodup) (bd : ∀ x ∈ xs, x.1.1 < 16 ∧ x.1.2 < 16) : SetP w h a xs := by
  obtain ⟨o, ep, ho, hex, hd⟩ := g
  exact ⟨⟨o, ep, t, ho, hex, hd, hf, hT, hr⟩, nd, bd⟩
theorem perm_bd {ys : List Pad} (h : ys.Perm xs) (bd : ∀ x ∈ xs, x.1.1 < 16 ∧ x.1.2 < 16) : ∀ x ∈ ys, x.1.1 < 16 ∧ x.1.2 < 16 := fun x hx => bd x (h.mem_iff.mp hx)
theorem sp_relay {wanted : Nat} {t : SetTable} {Q : Unit → Shared → Prop} (g : SetQ s.heap a xs t) (hf : t.fits xs.length = true) (hl : t.led = !byT w) (hpl : t.plain = true) (hm : SetTable.sizeAbove wanted - 1 ∈ ST.masks) (hr : xs.length * 5 < (SetTable.sizeAbove wanted - 1) * 3) (hsl : SetTable.sizeAbove wanted ≤ 256) (nd : (xs.map (·.1)).Nodup) (bd : ∀ x ∈ xs, x.1.1 < 16 ∧ x.1.2 < 16)
    (h : ∀ h' ys, Heap.SameBut a s.heap h' → SetP w h' a ys → ys.Perm xs → ys.length = xs.length → (∃ t', SetQ h' a ys t' ∧ t'.mask = SetTable.sizeAbove wanted - 1 ∧ t'.dummies = #[] ∧ t'.place.size = xs.length) → Q () { s with heap := h' }) : wpAny (model prog w) A (setRelay a wanted) Q E s := by
  obtain ⟨o, ep, ho, hex, hd⟩ := id g
  have hf' : t.fits (xs.map pent).toArray.size = true := by simpa using hf
  have mge := ST.mask_ge hm
  have e1 : ((xs.map pent).toArray.map (·.1)).toList = xs.map fun x => th x.1 := by
    rw [Array.toList_map, List.map_map]
    rfl
  have s1 : ((xs.map pent).toArray.map (·.1)).size = xs.length := by simp
  unfold setRelay
  refine wpAny_bind (wpAny_setState_of ho hd hf' ?_)
  dsimp only
  rw [if_neg (by have : 256 ≤ sizeLine := by decide
                 omega)]
  obtain ⟨t', od, el, pe, fe, hT, mk, dm⟩ := ST.laid_any (finger := t.finger) (moves := t.movedTo (SetTable.sizeAbove wanted - 1)) (led := t.led) (hs := (xs.map pent).toArray.map (·.1)) hm (by rw [s1]; omega)
  rw [e1, filterMap_at, hl] at hT
  rw [s1] at pe fe
  have er : t.relaid ((xs.map pent).toArray.map (·.1)) wanted = some (t', od) := by
    unfold SetTable.relaid
    rw [hpl]
    exact el
  have pes : (od.toList.filterMap (xs[·]?)).Perm xs := (pe.filterMap _).trans (by have := filterMap_getElem?_range xs.toArray; simp only [List.size_toArray, List.getElem?_toArray] at this; rw [this])
  have ees : od.filterMap ((xs.map pent).toArray[·]?) = ((od.toList.filterMap (xs[·]?)).map pent).toArray := by
    apply Array.toList_inj.mp
    rw [Array.toList_filterMap, ← filterMap_at]
    simp only [List.getElem?_toArray]
  rw [er]
  refine wpAny_bind ?_
  refine (show wpAny _ _ (if ((od.filterMap ((xs.map pent).toArray[·]?)).size != (xs.map pent).toArray.size) = true then _ else _) _ _ _ from ?_)
  rw [ees, if_neg (by simp [pes.length_eq])]
  refine wpAny_pure (wpAny_storeSet_of ho hd ?_ (by simp [pes.length_eq]; have : 256 ≤ sizeLine := by decide
                                                    have : xs.length < 256 := by omega
                                                    omega))
  have g2 := setq_put (ys := od.toList.filterMap (xs[·]?)) (t' := t') g
  have ff := (fits_iff.mp fe).1
  refine h _ (od.toList.filterMap (xs[·]?)) (Heap.SameBut.update s.heap a _) (g2.setP (by rw [pes.length_eq]; exact fe) hT ?_ ((pes.map _).nodup_iff.mpr nd) (perm_bd pes bd)) pes pes.length_eq ⟨t', g2, mk, dm, ff⟩
  show (t'.place.size + t'.dummies.size) * 5 < t'.mask * 3
  rw [ff, dm, mk]
  exact hr
theorem hash_by {Q : Bool → Shared → Prop} (hb : PrT s.heap p b) (h : Q true s) : wpAny (model prog w) A (hashByValue 8 (.ref b)) Q E s := by
  have T := (hb.key (prog := prog) (w := w)).typeIs
  obtain ⟨o, n, tx, ty, g, cl, d⟩ := hb
  unfold hashByValue
  refine wpAny_bind (wpAny_specialOf T PySem.F.slot_tuple_hash.lookup ?_)
  refine wpAny_bind (wpAny_seqItems g d ?_)
  dsimp only
  refine wpAny_bind (MeetsSeq2.wpAny_forIn_array _ (fun rest r s' => r = (none, ()) ∧ s' = s ∧ ∀ v ∈ rest, ∃ i t, v = Value.int i t) _ ?_ ?_ _ _ ⟨rfl, rfl, fun v hv => ?_⟩)
  · rintro v rest r s' ⟨rfl, rfl, hv⟩
    obtain ⟨i, t, rfl⟩ := hv v List.mem_cons_self
    exact wpAny_bind (wpAny_pure (wpAny_pure ⟨rfl, rfl, fun u hu => hv u (List.mem_cons_of_mem _ hu)⟩))
  · rintro r s' ⟨rfl, rfl, _⟩
    exact wpAny_pure h
  · simp at hv
    rcases hv with rfl | rfl <;> exact ⟨_, _, rfl⟩
theorem erase_ent {i : Nat} : SetTable.eraseAt (xs.map pent).toArray i = ((xs.take i ++ xs.drop (i + 1)).map pent).toArray := by
  apply Array.toList_inj.mp
  rw [ST.toList_erase, List.map_append, List.map_take, List.map_drop]
theorem insert_ent {i : Nat} {x : Pad} : SetTable.insertAt (xs.map pent).toArray i (pent x) = ((xs.take i ++ x :: xs.drop i).map pent).toArray := by
  apply Array.toList_inj.mp
  rw [SetTable.toList_insertAt, List.map_append, List.map_cons, List.map_take, List.map_drop]
theorem sp_discard {Q : Bool → Shared → Prop} (hu : A.units < cLine) (h64 : xs.length < 64) (S : SetP w s.heap a xs) (T : Tps s.heap xs) (hb : PrT s.heap p b) (hp : p.1 < 16 ∧ p.2 < 16) (hn : p ∉ xs.map (·.1) → Q false s)
    (hy : p ∈ xs.map (·.1) → ∀ h' ys, Heap.SameBut a s.heap h' → SetP w h' a ys → (∀ x, x ∈ ys ↔ x ∈ xs ∧ x.1 ≠ p) → ys.length < xs.length → Q true { s with heap := h' }) : wpAny (model prog w) A (setDiscardHashed a (.ref b) (th p)) Q E s := by
  obtain ⟨o, ep, t, ho, hex, hd, hf, hT, hr⟩ := S.ex
  have hf' : t.fits (xs.map pent).toArray.size = true := by simpa using hf
  unfold setDiscardHashed
  refine wpAny_bind (sp_find hu S T hb hp (fun z => wpAny_pure (hn z)) fun i c hi => ?_)
  dsimp only
  have il : i < xs.length := (List.getElem?_eq_some_iff.mp hi).1
  have ip : i < t.place.size := by rw [(fits_iff.mp hf).1]; exact il
  refine wpAny_bind (wpAny_setState_of ho hd hf' ?_)
  dsimp only
  rw [erase_ent]
  have sp : xs = xs.take i ++ (p, c) :: xs.drop (i + 1) := by
    conv => lhs; rw [← List.take_append_drop i xs, List.drop_eq_getElem_cons il]
    have := (List.getElem?_eq_some_iff.mp hi).2
    rw [this]
  have ln : (xs.take i ++ xs.drop (i + 1)).length = xs.length - 1 := by
    simp
    omega
  have g2 := setq_put (ys := xs.take i ++ xs.drop (i + 1)) (t' := t.drop i) ⟨o, ep, ho, hex, hd⟩
  obtain ⟨df, dm⟩ := drop_fill ip
  have nd := S.nd
  rw [sp, List.map_append, List.map_cons, List.nodup_append, List.nodup_cons] at nd
  have sub : ∀ x ∈ xs.take i ++ xs.drop (i + 1), x ∈ xs := fun x hx => by
    rcases List.mem_append.mp hx with hx | hx
    · exact List.mem_of_mem_take hx
    · exact List.mem_of_mem_drop hx
  refine wpAny_bind (wpAny_storeSet_of ho hd ?_ (by rw [List.size_toArray, List.length_map, ln]; have : 64 ≤ sizeLine := by decide
                                                    omega))
  refine wpAny_bind (wpAny_point (wpAny_pure (hy (List.mem_map.mpr ⟨(p, c), List.mem_of_getElem? hi, rfl⟩) _ (xs.take i ++ xs.drop (i + 1)) (Heap.SameBut.update s.heap a _) (g2.setP ?_ ?_ ?_ ?_ fun x hx => S.bd x (sub x hx)) (fun x => ?_) (by rw [ln]; omega))))
  · rw [ln]
    exact drop_fits hf il
  · have := hT.drop (i := i) (by simpa using il)
    rw [← List.map_take, ← List.map_drop, ← List.map_append] at this
    exact this
  · rw [df, dm]
    exact hr
  · rw [List.map_append, List.nodup_append]
    exact ⟨nd.1, nd.2.1.2, fun x hx y hy => nd.2.2 x hx y (List.mem_cons_of_mem _ hy)⟩
  · conv => rhs; rw [sp]
    rw [List.mem_append, List.mem_append, List.mem_cons]
    constructor
    · rintro (h | h)
      · exact ⟨.inl h, fun z => nd.2.2 x.1 (List.mem_map.mpr ⟨x, h, rfl⟩) p List.mem_cons_self z⟩
      · exact ⟨.inr (.inr h), fun z => nd.2.1.1 (List.mem_map.mpr ⟨x, h, z⟩)⟩
    · rintro ⟨h | h | h, hne⟩
      · exact .inl h
      · exact absurd (by rw [h]) hne
      · exact .inr h
end
end L2
set_option Elab.async false
set_option linter.all false
set_option maxRecDepth 100000
set_option maxHeartbeats 4000000
namespace L2
open PySem PySem.Spec PyProof.Rows PySem.W
section
variable {prog : Program} {w : World} {A : Around} {E : Value → Shared → Prop} {s : Shared} {a b : Addr} {xs : List Pad} {p : Nat × Nat}
theorem put_plain (t : SetTable) (k : Nat) : (t.put k).1.plain = t.plain ∧ (t.put k).1.mask = t.mask ∧ (t.put k).1.led = t.led := ⟨rfl, rfl, rfl⟩
theorem sp_add {Q : Bool → Shared → Prop} (hu : A.units < cLine) (h64 : xs.length < 63) (S : SetP w s.heap a xs) (T : Tps s.heap xs) (hb : PrT s.heap p b) (hp : p.1 < 16 ∧ p.2 < 16) (hy : p ∈ xs.map (·.1) → Q false s)
    (hn : p ∉ xs.map (·.1) → ∀ h' ys, Heap.SameBut a s.heap h' → SetP w h' a ys → (∀ x, x ∈ ys ↔ x ∈ xs ∨ x = (p, b)) → ys.length = xs.length + 1 → Q true { s with heap := h' }) : wpAny (model prog w) A (setAddHashed a (.ref b) (th p)) Q E s := by
  have sl : 256 ≤ sizeLine := by decide
  obtain ⟨o, ep, t, ho, hex, hd, hf, hT, hr⟩ := id S.ex
  have hf' : t.fits (xs.map pent).toArray.size = true := by simpa using hf
  unfold setAddHashed setAddHashedIn
  refine wpAny_holding (wpAny_bind (wpAny_setState_of ho hd hf' ?_))
  dsimp only
  rw [if_neg (by rw [not_scan]; decide)]
  by_cases c : p ∈ xs.map (·.1)
  · obtain ⟨x, hx, e⟩ := List.mem_map.mp c
    obtain ⟨i, hi⟩ := List.getElem?_of_mem hx
    have hi : xs[i]? = some (p, x.2) := by rw [hi, ← e]
    exact wpAny_bind (sp_hit hu S T hb hp hi (wpAny_pure (hy c)))
  · refine wpAny_bind (sp_miss S hp c fun o t' t ho hex hd hf hT hr k wd w1 w2 k1 k2 => ?_)
    have hf' : t.fits (xs.map pent).toArray.size = true := by simpa using hf
    have mge := ST.mask_ge hT.mask
    dsimp only
    refine wpAny_bind (wpAny_setState_of ho hd hf' ?_)
    obtain ⟨hT2, hle⟩ := hT.put k1 k2
    obtain ⟨f1, f2⟩ := ST.put_fill (t := t) (j := k)
    obtain ⟨q1, q2, q3⟩ := put_plain t k
    generalize t.put k = tp at hT2 hle f1 f2 q1 q2 q3
    obtain ⟨t2, pos⟩ := tp
    dsimp only at hT2 hle f1 f2 q1 q2 q3 ⊢
    rw [q1, hT.plain, if_pos rfl]
    refine wpAny_bind (hash_by hb ?_)
    rw [if_pos rfl]
    have ei : SetTable.insertAt (xs.map pent).toArray pos (th p, Value.ref b) = ((xs.take pos ++ (p, b) :: xs.drop pos).map pent).toArray := insert_ent (x := (p, b))
    rw [ei]
    have hle : pos ≤ xs.length := by simpa using hle
    have ln : (xs.take pos ++ (p, b) :: xs.drop pos).length = xs.length + 1 := by
      simp
      omega
    have mem : ∀ x, x ∈ xs.take pos ++ (p, b) :: xs.drop pos ↔ x ∈ xs ∨ x = (p, b) := fun x => by
      conv => rhs; rw [← List.take_append_drop pos xs]
      rw [List.mem_append, List.mem_cons, List.mem_append]
      constructor
      · rintro (h | h | h)
        · exact .inl (.inl h)
        · exact .inr h
        · exact .inl (.inr h)
      · rintro ((h | h) | h)
        · exact .inl h
        · exact .inr (.inr h)
        · exact .inr (.inl h)
    have nd : ((xs.take pos ++ (p, b) :: xs.drop pos).map (·.1)).Nodup := by
      have pm : (xs.take pos ++ (p, b) :: xs.drop pos).Perm ((p, b) :: xs) := by
        refine List.perm_middle.trans ?_
        rw [List.take_append_drop]
      refine ((pm.map (·.1)).nodup_iff).mpr ?_
      rw [List.map_cons, List.nodup_cons]
      exact ⟨c, S.nd⟩
    have bd : ∀ x ∈ xs.take pos ++ (p, b) :: xs.drop pos, x.1.1 < 16 ∧ x.1.2 < 16 := fun x hx => by
      rcases (mem x).mp hx with h | rfl
      · exact S.bd x h
      · exact hp
    rw [← List.map_take, ← List.map_drop] at hT2
    have hT2 : ST.Tg t2 (!byT w) ((xs.take pos ++ (p, b) :: xs.drop pos).map fun x => th x.1) := by
      rw [List.map_append, List.map_cons]
      exact hT2
    have fits0 := fits_iff.mp hf
    have fl : t2.fill ≤ t.fill + 1 := by
      rw [f1]
      split
      · unfold SetTable.fill
        omega
      · omega
    have hf2 : t2.fits (xs.take pos ++ (p, b) :: xs.drop pos).length = true := by
      rw [fits_iff, ln, f2, fits0.1]
      refine ⟨rfl, ?_⟩
      have : t2.place.size + t2.dummies.size = t2.fill := rfl
      rw [← fits0.1, ← f2, this, q2]
      omega
    have g2 := setq_put (ys := xs.take pos ++ (p, b) :: xs.drop pos) (t' := t2) ⟨o, _, ho, hex, hd⟩
    refine wpAny_bind (wpAny_storeSet_of ho hd ?_ (by rw [List.size_toArray, List.length_map, ln]; omega))
    have sb1 := Heap.SameBut.update s.heap a (Obj.putSet ((xs.take pos ++ (p, b) :: xs.drop pos).map pent).toArray t2)
    by_cases cc : (!wd && t2.tooFull) = true
    · rw [if_pos cc]
      have es : (xs.map pent).toArray.size + 1 = xs.length + 1 := by simp
      rw [es]
      obtain ⟨m1, m2, m3⟩ := grow_okP (xs.length + 1) (by omega) (by omega)
      refine wpAny_bind (sp_relay (s := { s with heap := _ }) g2 hf2 hT2.led hT2.plain m1 (by rw [ln]; exact m2) m3 nd bd fun h' ys sb S' py ly _ => ?_)
      refine wpAny_pure (hn c h' ys (sb1.trans sb) S' (fun x => by rw [py.mem_iff, mem]) (by rw [ly, ln]))
    · rw [if_neg cc]
      refine wpAny_pure (hn c _ _ sb1 (g2.setP hf2 hT2 ?_ nd bd) mem ln)
      cases hw : wd with
      | true =>
        rw [f1, if_pos (w1 hw), q2]
        have hdm : 1 ≤ t.dummies.size := by
          have c := w1 hw
          unfold SetTable.has at c
          have c : t.dummies[SetTable.below t.dummies k]? = some k := by simpa using c
          have := (Array.getElem?_eq_some_iff.mp c).1
          omega
        unfold SetTable.fill at hr
        omega
      | false =>
        rw [hw] at cc
        have cc : ¬ (t2.tooFull = true) := by simpa using cc
        unfold SetTable.tooFull at cc
        rw [decide_eq_true_eq] at cc
        omega
theorem Tps.same {h h' : Heap} {xs : List Pad} {a : Addr} {o : Obj} {es : Array (Int × Value)} {ep : Nat} {t : SetTable} (T : Tps h xs) (ho : h.get? a = some o) (hd : o.data = .set es ep t) (sb : Heap.SameBut a h h') : Tps h' xs := fun x hx => by
  refine (T x hx).at fun o' e => ?_
  have : x.2 ≠ a := fun z => by
    obtain ⟨o2, k, tx, ty, e2, c2, d2⟩ := T x hx
    rw [z, ho] at e2
    cases e2
    rw [hd] at d2
    cases d2
  rw [sb.2 x.2 this]
  exact e
theorem PrT.same {h h' : Heap} {p : Nat × Nat} {b a : Addr} {o : Obj} {es : Array (Int × Value)} {ep : Nat} {t : SetTable} (T : PrT h p b) (ho : h.get? a = some o) (hd : o.data = .set es ep t) (sb : Heap.SameBut a h h') : PrT h' p b :=
  Tps.same (xs := [(p, b)]) (fun x hx => by have := List.mem_singleton.mp hx; subst this; exact T) ho hd sb (p, b) (List.mem_singleton.mpr rfl)
theorem sp_flip {Q : Unit → Shared → Prop} (hu : A.units < cLine) (h64 : xs.length < 63) (S : SetP w s.heap a xs) (T : Tps s.heap xs) (hb : PrT s.heap p b) (hp : p.1 < 16 ∧ p.2 < 16) (h : ∀ h' ys, Heap.SameBut a s.heap h' → SetP w h' a ys → (∀ x, x ∈ ys ↔ (x ∈ xs ∧ x.1 ≠ p) ∨ (x = (p, b) ∧ p ∉ xs.map (·.1))) → ys.length ≤ xs.length + 1 → Q () { s with heap := h' }) :
    wpAny (model prog w) A (holding [.ref b] do if !(← setDiscardHashed a (.ref b) (th p)) then let _ ← setAddHashed a (.ref b) (th p)) Q E s := by
  refine wpAny_holding (wpAny_bind (sp_discard hu (by omega) S T hb hp (fun hn => ?_) fun hy h' ys sb S' mem ly => ?_))
  · refine (show wpAny _ _ (setAddHashed a (.ref b) (th p) >>= _) _ _ s from wpAny_bind (sp_add hu h64 S T hb hp (fun z => absurd z hn) fun _ h' ys sb S' mem ly => wpAny_pure (h h' ys sb S' (fun x => ?_) (by omega))))
    rw [mem x]
    constructor
    · rintro (z | z)
      · exact .inl ⟨z, fun e => hn (List.mem_map.mpr ⟨x, z, e⟩)⟩
      · exact .inr ⟨z, hn⟩
    · rintro (⟨z, _⟩ | ⟨z, _⟩)
      · exact .inl z
      · exact .inr z
  · refine wpAny_pure (h h' ys sb S' (fun x => ?_) (by omega))
    rw [mem x]
    constructor
    · intro z
      exact .inl z
    · rintro (z | ⟨_, z⟩)
      · exact z
      · exact absurd hy z
end
end L2
set_option Elab.async false
set_option linter.all false
set_option maxRecDepth 100000
set_option maxHeartbeats 4000000
namespace L2
open PySem PySem.Spec PyProof.Rows PySem.W
theorem perm_map_inv {α β : Type} {f : α → β} {l l' : List β} (p : l'.Perm l) : ∀ {xs : List α}, l = xs.map f → ∃ ys : List α, ys.Perm xs ∧ l' = ys.map f := by
  induction p with
  | nil => intro xs h; exact ⟨[], by rw [List.map_eq_nil_iff.mp h.symm], rfl⟩
  | cons x p ih =>
    intro xs h
    cases xs with
    | nil => cases h
    | cons y xs =>
      rw [List.map_cons] at h
      injection h with h1 h2
      obtain ⟨ys, py, e⟩ := ih h2
      exact ⟨y :: ys, py.cons _, by rw [List.map_cons, h1, e]⟩
  | swap x y l =>
    intro xs h
    match xs, h with
    | [], h => cases h
    | [_], h => cases h
    | u :: v :: r, h =>
      rw [List.map_cons, List.map_cons] at h
      injection h with h1 h2
      injection h2 with h2 h3
      exact ⟨v :: u :: r, .swap _ _ _, by rw [List.map_cons, List.map_cons, ← h1, ← h2, ← h3]⟩
  | trans p q ih1 ih2 =>
    intro xs h
    obtain ⟨y1, p1, e1⟩ := ih2 h
    obtain ⟨y2, p2, e2⟩ := ih1 e1
    exact ⟨y2, p2.trans p1, e2⟩
section
variable {prog : Program} {w : World} {A : Around} {E : Value → Shared → Prop} {s : Shared} {a b f r : Addr} {xs ys zs : List Pad} {p : Nat × Nat}
theorem sp_walkU {Q : Array (Int × Value) → Shared → Prop} (So : SetP w s.heap a xs) (h : ∀ ys : List Pad, ys.Perm xs → Q (ys.map pent).toArray s) : wpAny (model prog w) A (setWalkUnseen a [f] (some f)) Q E s := by
  obtain ⟨o, ep, t, ho, hex, hd, hf, hT, hr⟩ := So.ex
  have hf' : t.fits (xs.map pent).toArray.size = true := by simpa using hf
  have go : ∀ es' : Array (Int × Value), es'.toList.Perm (xs.map pent).toArray.toList → Q es' s := fun es' pm => by
    obtain ⟨ys, py, e⟩ := perm_map_inv (f := pent) pm (xs := xs) rfl
    have : es' = (ys.map pent).toArray := Array.toList_inj.mp e
    rw [this]
    exact h ys py
  unfold setWalkUnseen
  refine wpAny_bind (wpAny_setState_of ho hd hf' ?_)
  dsimp only
  refine wpAny_bind (by_text ?_)
  have c : (byT w || (t.led && t.plain) || decide ((xs.map pent).toArray.size ≤ 1)) = true := by
    rw [hT.led, hT.plain]
    cases byT w <;> rfl
  rw [if_pos c]
  exact si_walk ho hd hf' ⟨hT.led, hT.rp⟩ (.inr (.inl hT.plain)) go
theorem em_sp {h : Heap} {m : Nat} (e : Em w h r m) : SetP w h r [] := by
  obtain ⟨o, ep, t, ho, hex, hd, h1, h2, h3, h4, h5, h6⟩ := e.ex
  refine ⟨⟨o, ep, t, ho, hex, hd, Em.fits h2 h3, ⟨h4, h5, by rw [h1]; exact h6, by rw [h2]; rfl, by rw [h2]; exact List.Pairwise.nil, by rw [h3]; exact List.Pairwise.nil, by rw [h2]; simp, by rw [h2]; simp⟩, ?_⟩, List.nodup_nil, by simp⟩
  unfold SetTable.fill
  rw [h2, h3, h1]
  have := ST.mask_ge h6
  show 0 * 5 < _
  omega
theorem em_roomP {n : Nat} {Q : Unit → Shared → Prop} (e : Em w s.heap r 7) (hn : n < 64) (h : ∀ h' m, Heap.SameBut r s.heap h' → Em w h' r m → n * 5 < m * 3 → Q () { s with heap := h' }) : wpAny (model prog w) A (setRoomFor r n) Q E s := by
  obtain ⟨o, ep, t, ho, hex, hd, h1, h2, h3, h4, h5, h6⟩ := e.ex
  have hf := Em.fits h2 h3
  unfold setRoomFor
  refine wpAny_bind (wpAny_setState_of ho hd hf ?_)
  have er : t.roomFor n = if (0 + n) * 5 ≥ 7 * 3 then some ((0 + n) * 2) else none := by
    unfold SetTable.roomFor SetTable.fill
    rw [h1, h2, h3]
    rfl
  dsimp only
  rw [er]
  by_cases c : (0 + n) * 5 ≥ 7 * 3
  · rw [if_pos c]
    obtain ⟨m1, m2, m3⟩ := room_okP n hn c
    dsimp only
    unfold setRelay
    refine wpAny_bind (wpAny_setState_of ho hd hf ?_)
    dsimp only
    rw [if_neg (by have : 256 ≤ sizeLine := by decide
                   omega)]
    obtain ⟨t', od, el, pe, fe⟩ := ST.laid_ok (finger := t.finger) (moves := t.movedTo (SetTable.sizeAbove ((0 + n) * 2) - 1)) (led := t.led) (plain := t.plain) (hs := (#[] : Array (Int × Value)).map (·.1)) m1 (by simp) (by simp)
    have tb := ST.laid_tb el
    have od0 : od = #[] := by
      have := pe.length_eq
      simp at this
      exact this
    subst od0
    rw [show t.relaid ((#[] : Array (Int × Value)).map (·.1)) ((0 + n) * 2) = some (t', #[]) from el]
    refine wpAny_bind ?_
    refine (show wpAny _ _ (pure ((#[] : Array (Int × Value)), t')) _ _ _ from wpAny_pure (wpAny_storeSet_of ho hd ?_ (Nat.zero_le _)))
    refine h _ _ (Heap.SameBut.update s.heap r _) ⟨{ o with data := .set #[] (ep + 1) t' }, _, _, ?_, hex, rfl, tb.2.1, ?_, tb.2.2.1, ?_, by rw [tb.2.2.2]; exact h5, m1⟩ m2
    · have := Heap.get?_update_self (Obj.putSet #[] t') ho (by rw [putSet_of _ _ hd]; rfl)
      rw [putSet_of _ _ hd] at this
      exact this
    · have := (fits_iff.mp fe).1
      exact Array.eq_empty_of_size_eq_zero (by simpa using this)
    · rw [tb.1.led, h4]
  · rw [if_neg c]
    exact wpAny_pure (h s.heap 7 (Heap.SameBut.refl r s.heap) e (by omega))
theorem em_mergeP {each : Sem Unit} {Q : Unit → Shared → Prop} (e : Em w s.heap r 7) (h64 : xs.length < 64) (So : SetP w s.heap a xs) (hne : r ≠ a) (h : ∀ h' ys, Heap.SameBut r s.heap h' → SetP w h' r ys → ys.Perm xs → Q () { s with heap := h' }) : wpAny (model prog w) A (setMerge r a each) Q E s := by
  have sl : 256 ≤ sizeLine := by decide
  obtain ⟨oo, epo, to, hoo, hexo, hdo, hfo, hTo, hro⟩ := So.ex
  have hfo' : to.fits (xs.map pent).toArray.size = true := by simpa using hfo
  have ln : (xs.map pent).toArray.size = xs.length := by simp
  unfold setMerge
  rw [if_neg (by simpa using hne)]
  refine wpAny_bind (wpAny_setState_of hoo hdo hfo' ?_)
  dsimp only
  by_cases c : (xs.map pent).toArray.isEmpty = true
  · rw [if_pos c]
    have : xs = [] := List.length_eq_zero_iff.mp (by rw [← ln]; simpa using c)
    refine wpAny_pure (h s.heap [] (Heap.SameBut.refl r s.heap) (em_sp e) (by rw [this]))
  rw [if_neg c, ln]
  refine wpAny_bind (em_roomP e h64 fun h1 m sb1 e1 hnm => ?_)
  obtain ⟨o, ep, t, ho, hex, hd, q1, q2, q3, q4, q5, hm⟩ := e1.ex
  have hf := Em.fits q2 q3
  have fill0 : t.fill = 0 := by unfold SetTable.fill; rw [q2, q3]; rfl
  have g1 : SetQ h1 r [] t := ⟨o, ep, ho, hex, hd⟩
  refine wpAny_bind (wpAny_setState_of (s := { s with heap := h1 }) ho hd hf ?_)
  dsimp only
  have er : t.road to = if (t.mask == to.mask && to.dummies.isEmpty) = true then .slotForSlot else .clean := by
    unfold SetTable.road
    rw [fill0]
    rfl
  rw [er]
  by_cases c2 : (t.mask == to.mask && to.dummies.isEmpty) = true
  · rw [if_pos c2]
    dsimp only
    refine wpAny_storeSet_of (s := { s with heap := h1 }) ho hd ?_ (by rw [ln]; omega)
    have g2 := setq_put (ys := xs) (t' := { to with finger := t.finger, led := t.led && to.led, moves := t.moves, plain := t.plain && to.plain }) g1
    refine h _ xs (sb1.trans (Heap.SameBut.update _ r _)) (g2.setP hfo ⟨?_, ?_, hTo.mask, hTo.size, hTo.rp, hTo.rd, hTo.dj, hTo.rc⟩ hro So.nd So.bd) (.refl _)
    · show (t.led && to.led) = _
      rw [q4, hTo.led, Bool.and_self]
    · show (t.plain && to.plain) = _
      rw [q5, hTo.plain, Bool.and_self]
  · rw [if_neg c2]
    dsimp only
    have e1 : ((xs.map pent).toArray.map (·.1)).toList = xs.map fun x => th x.1 := by
      rw [Array.toList_map, List.map_map]
      rfl
    have s1 : ((xs.map pent).toArray.map (·.1)).size = xs.length := by simp
    obtain ⟨t', od, el, pe, fe, hT, mk, dm⟩ := ST.laid_any (finger := t.finger) (moves := t.moves) (led := t.led && to.led) (hs := (xs.map pent).toArray.map (·.1)) (mask := t.mask) (by rw [q1]; exact hm) (by rw [s1, q1]; omega)
    rw [e1, filterMap_at, q4, hTo.led, Bool.and_self] at hT
    rw [s1] at pe fe
    have pes : (od.toList.filterMap (xs[·]?)).Perm xs := (pe.filterMap _).trans (by have := filterMap_getElem?_range xs.toArray; simp only [List.size_toArray, List.getElem?_toArray] at this; rw [this])
    have ees : od.filterMap ((xs.map pent).toArray[·]?) = ((od.toList.filterMap (xs[·]?)).map pent).toArray := by
      apply Array.toList_inj.mp
      rw [Array.toList_filterMap, ← filterMap_at]
      simp only [List.getElem?_toArray]
    have pp : (t.plain && to.plain) = true := by rw [q5, hTo.plain]; rfl
    rw [pp, el]
    refine wpAny_bind ?_
    refine (show wpAny _ _ (if ((od.filterMap ((xs.map pent).toArray[·]?)).size != (xs.map pent).toArray.size) = true then _ else _) _ _ _ from ?_)
    rw [ees, if_neg (by simp [pes.length_eq])]
    refine wpAny_pure (wpAny_storeSet_of (s := { s with heap := h1 }) ho hd ?_ (by simp [pes.length_eq]; omega))
    have g2 := setq_put (ys := od.toList.filterMap (xs[·]?)) (t' := t') g1
    have ff := (fits_iff.mp fe).1
    refine h _ _ (sb1.trans (Heap.SameBut.update _ r _)) (g2.setP (by rw [pes.length_eq]; exact fe) hT ?_ ((pes.map _).nodup_iff.mpr So.nd) (perm_bd pes So.bd)) pes
    show (t'.place.size + t'.dummies.size) * 5 < t'.mask * 3
    rw [ff, dm, mk, q1]
    exact hnm
theorem SetP.typeIs (S : SetP w s.heap a xs) : s.TypeIs (.ref a) "set" := by
  obtain ⟨o, _, _, ho, hex, _⟩ := S.ex
  exact ⟨o, ho, hex.1⟩
theorem SetP.lt {h : Heap} (S : SetP w h a xs) : a < h.objs.size := by
  obtain ⟨o', _, _, ho', _⟩ := S.ex
  exact Heap.lt_size ho'
theorem new_fromP {id : String} {Q : Value → Shared → Prop} (h64 : xs.length < 64) (S : SetP w s.heap a xs) (h : ∀ h' zs, (∀ c o, s.heap.get? c = some o → h'.get? c = some o) → h'.objs.size = s.heap.objs.size + 1 → SetP w h' s.heap.objs.size zs → zs.Perm xs → Q (.ref s.heap.objs.size) { s with heap := h' }) : wpAny (model prog w) A (Builtin.Frozenset.newFrom id (.type "set") (.ref a)) Q E s := by
  unfold Builtin.Frozenset.newFrom
  refine wpAny_bind (new_set fun h1 k1 z1 e1 => ?_)
  have S1 : SetP w h1 a xs := S.at fun o e => k1 a o e
  obtain ⟨o, ep, t, ho, hex, hd, hf, hT, hr⟩ := S1.ex
  have hf' : t.fits (xs.map pent).toArray.size = true := by simpa using hf
  have lt := S.lt
  refine (show wpAny _ _ (pure s.heap.objs.size >>= fun c => _) _ _ _ from wpAny_bind (wpAny_pure ?_))
  refine wpAny_bind (wpAny_holding ?_)
  unfold Builtin.Frozenset.updateFrom
  refine wpAny_bind (any_set (s := { s with heap := h1 }) S1.typeIs ?_)
  rw [if_pos rfl]
  refine (show wpAny _ _ (pure a >>= fun c => _) _ _ _ from wpAny_bind (wpAny_pure ?_))
  unfold Builtin.Frozenset.merge
  refine wpAny_bind (si_epoch (s := { s with heap := h1 }) ho hd hf' ?_)
  refine em_mergeP (s := { s with heap := h1 }) e1 h64 S1 (Nat.ne_of_gt lt) fun h2 zs sb S2 pz => ?_
  refine wpAny_pure (h h2 zs (fun c o e => ?_) ?_ S2 pz)
  · rw [sb.2 c (Nat.ne_of_lt (Heap.lt_size e))]
    exact k1 c o e
  · rw [sb.1]
    exact z1
end
end L2
set_option Elab.async false
set_option linter.all false
set_option maxRecDepth 100000
set_option maxHeartbeats 4000000
namespace L2
open PySem PySem.Spec PyProof.Rows PySem.W
section
variable {prog : Program} {w : World} {A : Around} {E : Value → Shared → Prop} {s : Shared} {a b f r : Addr} {xs ys zs : List Pad} {p : Nat × Nat}
theorem sym_diffP {Q : Value → Shared → Prop} (hu : A.units < cLine) (h63 : xs.length + ys.length < 63) (Sa : SetP w s.heap a xs) (Sb : SetP w s.heap b ys) (Ta : Tps s.heap xs) (Tb : Tps s.heap ys) (h : ∀ h' zs, (∀ c o, s.heap.get? c = some o → h'.get? c = some o) → SetP w h' s.heap.objs.size zs → (∀ x, x ∈ zs ↔ (x ∈ xs ∧ x.1 ∉ ys.map (·.1)) ∨ (x ∈ ys ∧ x.1 ∉ xs.map (·.1))) → zs.length < 63 → Q (.ref s.heap.objs.size) { s with heap := h' }) :
    wpAny (model prog w) A (do
      let result ← Builtin.Frozenset.newFrom "frozenset.__xor__" (← Builtin.Frozenset.baseOf a) (.ref b)
      holding [result] (Builtin.Frozenset.symmetricDifferenceUpdate "frozenset.__xor__" (← Builtin.Frozenset.addrOf result) (.ref a))
      return result) Q E s := by
  refine wpAny_bind (base_set Sa.typeIs ?_)
  refine wpAny_bind (new_fromP (by omega) Sb fun h1 zs k1 z1 S1 pz => ?_)
  have Sa1 : SetP w h1 a xs := Sa.at fun o e => k1 a o e
  have lt := Sa.lt
  obtain ⟨o, ep, t, ho, hex, hd, hf, hT, hr⟩ := Sa1.ex
  have hf' : t.fits (xs.map pent).toArray.size = true := by simpa using hf
  refine (show wpAny _ _ (pure s.heap.objs.size >>= fun c => _) _ _ _ from wpAny_bind (wpAny_pure ?_))
  refine wpAny_bind (wpAny_holding ?_)
  unfold Builtin.Frozenset.symmetricDifferenceUpdate
  rw [if_neg (by simp; exact Nat.ne_of_lt lt)]
  refine wpAny_bind (wpAny_typeOf (s := { s with heap := h1 }) Sa1.typeIs ?_)
  rw [if_neg (by decide)]
  refine wpAny_bind (any_set (s := { s with heap := h1 }) Sa1.typeIs ?_)
  dsimp only
  rw [if_pos rfl]
  refine wpAny_bind (wpAny_pure ?_)
  refine (show wpAny _ _ (pure a >>= fun c => _) _ _ _ from wpAny_bind (wpAny_pure ?_))
  refine wpAny_bind (si_epoch (s := { s with heap := h1 }) ho hd hf' ?_)
  refine wpAny_holding (wpAny_bind (sp_walkU (s := { s with heap := h1 }) Sa1 fun ys' py => ?_))
  have hoa : s.heap.get? a = some o := by
    obtain ⟨o', _, _, ho', _⟩ := Sa.ex
    have := k1 a o' ho'
    rw [ho] at this
    injection this with this
    rw [this]
    exact ho'
  have nd' : (ys'.map (·.1)).Nodup := ((py.map _).nodup_iff).mpr Sa.nd
  have keepT : ∀ (h' : Heap) (l : List Pad), (∀ c o, s.heap.get? c = some o → h'.get? c = some o) → Tps s.heap l → Tps h' l := fun h' l k T x hx => (T x hx).at fun o e => k _ o e
  have Tz : Tps s.heap zs := fun x hx => Tb x (pz.mem_iff.mp hx)
  have Ty : Tps s.heap ys' := fun x hx => Ta x (py.mem_iff.mp hx)
  refine wpAny_bind (MeetsSeq2.wpAny_forIn_array _ (fun rest _ s' => ∃ h' cur dn rv, s' = { s with heap := h' } ∧ (∀ c o, s.heap.get? c = some o → h'.get? c = some o) ∧ SetP w h' s.heap.objs.size cur ∧ rest = rv.map pent ∧ ys' = dn ++ rv ∧ (∀ x, x ∈ cur ↔ (x ∈ zs ∧ x.1 ∉ dn.map (·.1)) ∨ (x ∈ dn ∧ x.1 ∉ zs.map (·.1))) ∧ cur.length ≤ zs.length + dn.length) _ ?_ ?_ (ys'.map pent).toArray _ ⟨h1, zs, [], ys', rfl, k1, S1, rfl, rfl, fun y => by simp, by simp⟩)
  · rintro ⟨hv, x⟩ rest _ s' ⟨h', cur, dn, rv, rfl, k', S', pr, ey, mem, hlen⟩
    cases rv with
    | nil => cases pr
    | cons y0 rv' =>
      rw [List.map_cons] at pr
      have e1 := (List.cons.inj pr).1
      have e2 := (List.cons.inj pr).2
      have hv1 : hv = th y0.1 := congrArg Prod.fst e1
      have hv2 : x = Value.ref y0.2 := congrArg Prod.snd e1
      subst hv1 hv2 e2
      have in' : y0 ∈ ys' := by rw [ey]; simp
      have ina : y0 ∈ xs := py.mem_iff.mp in'
      have bd0 := Sa.bd y0 ina
      have ndn : y0.1 ∉ dn.map (·.1) := fun z => by
        rw [ey, List.map_append, List.map_cons, List.nodup_append] at nd'
        exact nd'.2.2 _ z _ List.mem_cons_self rfl
      have lz := pz.length_eq
      have lyy := py.length_eq
      rw [ey, List.length_append, List.length_cons] at lyy
      have Tc : Tps h' cur := keepT h' cur k' fun x hx => by
        rcases (mem x).mp hx with ⟨z, _⟩ | ⟨z, _⟩
        · exact Tz x z
        · exact Ty x (by rw [ey]; exact List.mem_append_left _ z)
      refine wpAny_bind (sp_flip (s := { s with heap := h' }) hu (by omega) S' Tc ((Ty y0 in').at fun o e => k' _ o e) bd0 fun h3 cur3 sb3 S3 mem3 l3 => ?_)
      have k3 : ∀ c o, s.heap.get? c = some o → h3.get? c = some o := fun c o e => by
        rw [sb3.2 c (Nat.ne_of_lt (Heap.lt_size e))]
        exact k' c o e
      unfold Builtin.Frozenset.unchanged
      refine wpAny_bind (wpAny_bind (si_epoch (s := { s with heap := h3 }) (k3 a o hoa) hd hf' ?_))
      rw [if_neg (by simp)]
      refine wpAny_pure (wpAny_pure ⟨h3, cur3, dn ++ [y0], rv', rfl, k3, S3, rfl, by rw [ey]; simp, fun x => ?_, by rw [List.length_append]; show _ ≤ _ + (_ + 1); omega⟩)
      have ey0 : ((y0.1, y0.2) : Pad) = y0 := rfl
      have inc : y0.1 ∈ cur.map (·.1) ↔ y0.1 ∈ zs.map (·.1) := by
        rw [List.mem_map, List.mem_map]
        constructor
        · rintro ⟨u, hu1, hu2⟩
          rcases (mem u).mp hu1 with ⟨z, _⟩ | ⟨z, _⟩
          · exact ⟨u, z, hu2⟩
          · exact absurd (List.mem_map.mpr ⟨u, z, hu2⟩) ndn
        · rintro ⟨u, hu1, hu2⟩
          exact ⟨u, (mem u).mpr (.inl ⟨hu1, by rw [hu2]; exact ndn⟩), hu2⟩
      rw [mem3 x, mem x, inc, List.map_append, List.mem_append, List.mem_append, ey0]
      show _ ↔ (x ∈ zs ∧ ¬ (x.1 ∈ dn.map (·.1) ∨ x.1 ∈ [y0.1])) ∨ ((x ∈ dn ∨ x ∈ [y0]) ∧ _)
      rw [List.mem_singleton, List.mem_singleton]
      by_cases e : x.1 = y0.1
      · have hd1 : x ∉ dn := fun z => ndn (by rw [← e]; exact List.mem_map.mpr ⟨x, z, rfl⟩)
        by_cases e2 : x = y0
        · subst e2
          simp [hd1]
        · simp [e, e2, hd1]
      · have e2 : x ≠ y0 := fun z => e (by rw [z])
        simp [e, e2]
  · rintro _ s' ⟨h', cur, dn, rv, rfl, k', S', pr, ey, mem, hlen⟩
    have : rv = [] := List.map_eq_nil_iff.mp pr.symm
    subst this
    rw [List.append_nil] at ey
    subst ey
    have lz := pz.length_eq
    have lyy := py.length_eq
    refine wpAny_pure (wpAny_pure (h h' cur k' S' (fun x => ?_) (by omega)))
    rw [mem x, pz.mem_iff, py.mem_iff, (py.map _).mem_iff, (pz.map _).mem_iff]
    constructor
    · rintro (⟨z1, z2⟩ | ⟨z1, z2⟩)
      · exact .inr ⟨z1, z2⟩
      · exact .inl ⟨z1, z2⟩
    · rintro (⟨z1, z2⟩ | ⟨z1, z2⟩)
      · exact .inr ⟨z1, z2⟩
      · exact .inl ⟨z1, z2⟩
theorem set_xorP {Q : Value → Shared → Prop} (hu : A.units + 1 < cLine) (h63 : xs.length + ys.length < 63) (Sa : SetP w s.heap a xs) (Sb : SetP w s.heap b ys) (Ta : Tps s.heap xs) (Tb : Tps s.heap ys) (h : ∀ h' zs, (∀ c o, s.heap.get? c = some o → h'.get? c = some o) → SetP w h' s.heap.objs.size zs → (∀ x, x ∈ zs ↔ (x ∈ xs ∧ x.1 ∉ ys.map (·.1)) ∨ (x ∈ ys ∧ x.1 ∉ xs.map (·.1))) → zs.length < 63 → Q (.ref s.heap.objs.size) { s with heap := h' }) :
    wpAny (model prog w) A (binaryOp .BitXor (.ref a) (.ref b)) Q E s := by
  refine wpAny_binaryOp_same (op := .BitXor) Sa.typeIs Sb.typeIs PySem.F.fills_set_xor PySem.F.slot_set_xor (wpAny_call_entry PySem.F.slot_set_xor Sa.typeIs entry_set_xor ?_ (PySem.F.args_set_xor_2 _ _))
  refine (show wpAny _ _ (do
      let (self, other) ← Builtin.Frozenset.slot1 "__xor__" ⟨[.ref a, .ref b], []⟩
      let (l, r) := if false then (other, self) else (self, other)
      if !(← Builtin.Frozenset.isAnySet l <&&> Builtin.Frozenset.isAnySet r) then rule s!"frozenset.__xor__.declined"; return ← ret .notImplemented
      ret (← (fun (l : Addr) (r : Value) => (do
        let result ← Builtin.Frozenset.newFrom "frozenset.__xor__" (← Builtin.Frozenset.baseOf l) r
        holding [result] (Builtin.Frozenset.symmetricDifferenceUpdate "frozenset.__xor__" (← Builtin.Frozenset.addrOf result) (.ref l))
        return result : Sem Value)) (← Builtin.Frozenset.addrOf l) r)) _ _ s from ?_)
  unfold Builtin.Frozenset.slot1 slotArgs
  refine wpAny_bind (wpAny_bind (wpAny_pure (wpAny_pure ?_)))
  dsimp only
  rw [if_neg Bool.false_ne_true]
  dsimp only
  refine wpAny_bind ?_
  refine (show wpAny _ _ (Builtin.Frozenset.isAnySet (.ref a) >>= _) _ _ s from wpAny_bind (any_set Sa.typeIs ?_))
  refine (show wpAny _ _ (Builtin.Frozenset.isAnySet (.ref b)) _ _ s from any_set Sb.typeIs ?_)
  rw [if_neg (by decide)]
  refine (show wpAny _ _ (pure a >>= fun c => _) _ _ _ from wpAny_bind (wpAny_pure ?_))
  refine wpAny_bind (sym_diffP (by simpa using hu) h63 Sa Sb Ta Tb fun h' zs k S m l => ?_)
  exact wpAny_pure ⟨_, rfl, (by intro z; cases z), h h' zs k S m l⟩
end
end L2
set_option Elab.async false
set_option linter.all false
set_option maxRecDepth 100000
set_option maxHeartbeats 4000000
namespace L2
open PySem PySem.Spec PyProof.Rows PySem.W
section
variable {prog : Program} {w : World} {A : Around} {E : Value → Shared → Prop} {s : Shared}
theorem set_loopP {S it l : Addr} {items : Array Value} {its : List Pad} (hh : A.in1.handled = none) (hu : A.units + 1 < cLine) (hne : l ≠ it) (hSi : S ≠ it) (hSl : S ≠ l) (hv : items.toList = its.map fun x => Value.ref x.2) (nd : (its.map (·.1)).Nodup) (bd : ∀ x ∈ its, x.1.1 < 16 ∧ x.1.2 < 16) (h63 : its.length < 63) {R : Result → Shared → Prop} :
    ∀ (k i : Nat) (s : Shared) (cur : List Pad), its.length - i = k → i ≤ its.length → s.heap.IsListIter it l i → s.heap.IsList l items → SetP w s.heap S cur → Tps s.heap its → (∀ x, x ∈ cur ↔ x ∈ its.take i) → cur.length = i →
      (∀ h' tk cur', (∀ c o, c ≠ S → c ≠ it → s.heap.get? c = some o → h'.get? c = some o) → SetP w h' S cur' → (∀ x, x ∈ cur' ↔ x ∈ its) → cur'.length = its.length → R (.ok (.ret .none)) { s with heap := h', toks := tk }) →
      codeAny (model prog w) A (.builtin "set.update.loop" ⟨[.ref S, .ref it], []⟩) R s := by
  have ln : items.size = its.length := by
    rw [← Array.length_toList, hv, List.length_map]
  have W := Walks.list (prog := prog) (w := w) (A := A.in1) hh it l hne items
  intro k
  induction k with
  | zero =>
    intro i s cur hk hi hit hl S0 T mem hcl hR
    have e : i = items.size := by omega
    refine codeAny_builtin PyProof.Rows.F.entry_set_update_loop ?_
    rw [Around.under_plainId PyProof.Rows.F.plain_set_update_loop _]
    refine (show wpAny _ A.in1 (pyNext (.ref it) >>= _) _ _ s from wpAny_bind (W.done s _ _ (e ▸ ⟨hit, hl⟩) fun h' tk kk => ?_))
    have S1 : SetP w h' S cur := S0.at fun o e => kk S o (by simpa using hSi) e
    refine wpAny_pure (hR h' tk cur (fun c o _ hc e => kk c o (by simpa using hc) e) S1 (fun y => ?_) (by omega))
    rw [mem y, List.take_of_length_le (by omega)]
  | succ k ih =>
    intro i s cur hk hi hit hl S0 T mem hcl hR
    have hlt : i < items.size := by omega
    have hln : i < its.length := by omega
    refine codeAny_builtin PyProof.Rows.F.entry_set_update_loop ?_
    rw [Around.under_plainId PyProof.Rows.F.plain_set_update_loop _]
    refine (show wpAny _ A.in1 (pyNext (.ref it) >>= _) _ _ s from wpAny_bind (W.item i s _ _ hlt ⟨hit, hl⟩ fun v h' tk hP st' kk => ?_))
    have ev : v = Value.ref (its[i]).2 := by
      have : items[i]? = some v := hP
      rw [← Array.getElem?_toList, hv, List.getElem?_map, List.getElem?_eq_getElem hln] at this
      exact (Option.some.inj this).symm
    subst ev
    have itr : ∀ x ∈ its, x.2 ≠ it := fun x hx z => by
      obtain ⟨o2, k2, tx, ty, e2, c2, d2⟩ := T x hx
      obtain ⟨o3, e3, c3, _⟩ := hit
      rw [z, e3] at e2
      cases e2
      rw [c3] at c2
      exact absurd c2 (by decide)
    have S1 : SetP w h' S cur := S0.at fun o e => kk S o (by simpa using hSi) e
    have T1 : Tps h' its := fun x hx => (T x hx).at fun o e => kk _ o (by simpa using itr x hx) e
    have hp := T1 _ (List.getElem_mem hln)
    have cs : ∀ x ∈ cur, x ∈ its := fun x hx => List.mem_of_mem_take ((mem x).mp hx)
    refine (show wpAny _ A.in1 (holding [Value.ref (its[i]).2] (setAdd S (.ref (its[i]).2)) >>= _) _ _ _ from wpAny_bind (wpAny_holding ?_))
    unfold setAdd
    refine wpAny_holding (wpAny_bind (wpAny_pyHash_tuple (knd := intKind prog w) (s := { s with heap := h', toks := tk }) (by simpa using hu) hp.key ?_))
    rw [th_eq]
    have tk1 : its.take (i + 1) = its.take i ++ [its[i]] := by
      rw [List.take_add_one, List.getElem?_eq_getElem hln]
      rfl
    have fresh : (its[i]).1 ∉ cur.map (·.1) := fun z => by
      obtain ⟨x, hx, e⟩ := List.mem_map.mp z
      obtain ⟨m, hm⟩ := List.getElem?_of_mem ((mem x).mp hx)
      rw [List.getElem?_take] at hm
      split at hm
      · rename_i hmi
        obtain ⟨hml, em⟩ := List.getElem?_eq_some_iff.mp hm
        have := nd_inj2 nd (i := m) (j := i) (by simpa using hml) (by simpa using hln) (by simp [em, e])
        omega
      · cases hm
    refine sp_add (s := { s with heap := h', toks := _ }) (by simpa using hu) (by omega) S1 (fun x hx => T1 x (cs x hx)) hp (bd _ (List.getElem_mem hln)) (fun hin => absurd hin fresh) fun _ h2 cur2 sb S2 mem2 l2 => ?_
    obtain ⟨oS, epS, tS, hoS, _, hdS, _⟩ := S1.ex
    refine wpAny_pure ⟨plainId_quiet PyProof.Rows.F.plain_set_update_loop _, ih (i + 1) _ cur2 (by omega) hln ?_ ?_ S2 (T1.same hoS hdS sb) (fun y => ?_) (by omega) fun h3 tk3 cur3 k3 S3 m3 l3 => ?_⟩
    · exact st'.1.at fun o e => by rw [sb.2 it (Ne.symm hSi)]; exact e
    · exact st'.2.at fun o e => by rw [sb.2 l (Ne.symm hSl)]; exact e
    · rw [tk1, List.mem_append, List.mem_singleton, mem2 y, mem y]
    · exact hR h3 tk3 cur3 (fun c o n1 n2 e => k3 c o n1 n2 (by
          show h2.get? c = some o
          rw [sb.2 c n1]
          exact kk c o (by simpa using n2) e)) S3 m3 l3
theorem set_ofP {l : Addr} {items : Array Value} {its : List Pad} {Q : Value → Shared → Prop} (hh : A.handled = none) (hu : A.units + 16 < cLine) (hl : s.heap.IsList l items) (T : Tps s.heap its) (hv : items.toList = its.map fun x => Value.ref x.2) (nd : (its.map (·.1)).Nodup) (bd : ∀ x ∈ its, x.1.1 < 16 ∧ x.1.2 < 16) (h63 : its.length < 63)
    (h : ∀ h' tk cur, (∀ c o, s.heap.get? c = some o → h'.get? c = some o) → SetP w h' s.heap.objs.size cur → (∀ x, x ∈ cur ↔ x ∈ its) → cur.length = its.length → Q (.ref s.heap.objs.size) { s with heap := h', toks := tk }) : wpAny (model prog w) A (call (.type "set") [.ref l]) Q E s := by
  obtain ⟨c, tl, hmro⟩ := PySem.F.called_set.mro
  have hmade := PySem.F.called_set.made
  have hsub := PySem.F.called_set.sub
  have h1 := PySem.F.called_set.notType
  have h2 := PySem.F.called_set.canCreate
  have hct := PySem.F.typeCall_set_1 (.ref l)
  refine wpAny_call (codeAny_of_tree (show wpAny _ _ (callAny (.type "set") _) _ _ _ from wpAny_pure ⟨Code.quiet_builtin _ (by decide +kernel), codeAny_builtin PySem.F.entry_type_call ?_⟩))
  rw [Around.under_plain (weight_type_call_type "set" [.ref l] []) rfl]
  repeat (any_goals (first | assumption | wp_step))
  refine codeAny_mono (set_new1 (w := w) (.ref l) (E := E) (Q₁ := fun obj s₁ => obj = .ref s.heap.objs.size ∧ s₁ = { s with heap := s.heap.push (nset w) }) ⟨rfl, rfl⟩) fun r s₁ hr => ?_
  cases r with
  | error e => exact hr
  | ok fl =>
    cases fl with
    | ret obj =>
      obtain ⟨rfl, rfl⟩ := hr
      have hS : (s.heap.push (nset w)).get? s.heap.objs.size = some (nset w) := Heap.get?_push_size _ rfl
      have hT : Shared.TypeIs { s with heap := s.heap.push (nset w) } (.ref s.heap.objs.size) "set" := ⟨_, hS, rfl⟩
      have hli := PySem.F.called_set.init.lookup
      have hbi := PySem.F.called_set.init.bind (.ref s.heap.objs.size)
      repeat (any_goals (first | assumption | wp_step))
      refine codeAny_mono (codeAny_call_builtin (R := wants (fun r s₂ => r = .none ∧ ∃ h' tk cur, s₂ = { s with heap := h', toks := tk } ∧ (∀ c o, s.heap.get? c = some o → h'.get? c = some o) ∧ SetP w h' s.heap.objs.size cur ∧ (∀ x, x ∈ cur ↔ x ∈ its) ∧ cur.length = its.length) E) PySem.F.called_set.init.plain PySem.F.entry_set_init (check_set_init_1 hT ?_)) fun r₂ s₂ hr₂ => ?_
      · obtain ⟨⟨ocls, odict, odata, oslots⟩, hol, hcl, n0, hdl⟩ := id hl
        have hcl : ocls = .type "list" := hcl
        have hdl : odata = .seq items n0 := hdl
        subst hcl hdl
        have hol' : (s.heap.push (nset w)).get? l = some { cls := .type "list", dict := odict, data := .seq items n0, slots := oslots } := Heap.get?_push_of_some _ hol
        have hl1 : (s.heap.push (nset w)).IsList l items := ⟨_, hol', rfl, n0, rfl⟩
        have hlS : l < s.heap.objs.size := Heap.lt_size hol
        have b1 := PySem.F.sub_list_set
        have b2 := PySem.F.sub_list_frozenset
        have b3 : (Value.type "list" == Value.type "dict") = false := by decide
        unfold nset at hol' hS hT ⊢
        unfold Builtin.«set.__init__» noKeywords Builtin.Frozenset.updateFrom
        generalize hPI : pyIter = PI
        wp_walk
        subst hPI
        have hl2 : (s.heap.push { cls := .type "set", dict := none, data := .set #[] 0 (.fresh 0 0 (!byT w)) }).IsList l items := hl1
        have sz : (s.heap.push { cls := .type "set", dict := none, data := .set #[] 0 (.fresh 0 0 (!byT w)) }).objs.size = s.heap.objs.size + 1 := Heap.size_push ..
        refine wpAny_pyIter_list hl2 ?_
        refine wpAny_bind (wpAny_runValue ?_)
        refine set_loopP (w := w) (l := l) (items := items) (its := its) (by simp [hh]) (by simp; omega) ?_ ?_ (Nat.ne_of_gt hlS) hv nd bd h63 its.length 0 _ [] (by omega) (Nat.zero_le _) ⟨_, Heap.get?_push_size _ rfl, rfl, rfl⟩ (hl2.push _) ?_ (fun x hx => (T x hx).at fun o e => Heap.get?_push_of_some _ (Heap.get?_push_of_some _ e)) (fun y => by simp) rfl fun h' tk cur k' S' m' l' => ?_
        · rw [sz]
          exact Nat.ne_of_lt (Nat.lt_succ_of_lt hlS)
        · rw [sz]
          exact Nat.ne_of_lt (Nat.lt_succ_self _)
        · refine em_sp (m := 7) ⟨_, 0, _, Heap.get?_push_of_some _ hS, ⟨rfl, rfl, rfl⟩, rfl, rfl, rfl, rfl, rfl, rfl, by decide⟩
        · refine wpAny_pure ?_
          refine wpAny_pure ⟨rfl, h', tk, cur, rfl, fun c o e => ?_, S', m', l'⟩
          have lc : c < s.heap.objs.size := Heap.lt_size e
          exact k' c o (Nat.ne_of_lt lc) (by rw [sz]; exact Nat.ne_of_lt (Nat.lt_succ_of_lt lc)) (Heap.get?_push_of_some _ (Heap.get?_push_of_some _ e))
      · cases r₂ with
        | error e => exact hr₂
        | ok fl₂ =>
          cases fl₂ with
          | ret r =>
            obtain ⟨rfl, h', tk, cur, rfl, k', S', m', l'⟩ := hr₂
            repeat (any_goals (first | assumption | wp_step))
            exact h _ _ _ k' S' m' l'
          | _ => exact hr₂.elim
    | _ => exact hr.elim
end
end L2
set_option Elab.async false
set_option linter.all false
set_option maxRecDepth 100000
set_option maxHeartbeats 4000000
namespace L2
open PySem PySem.Spec PyProof.Rows PySem.W
theorem PrT.tup {h : Heap} {p : Nat × Nat} {b : Addr} (x : PrT h p b) : TupAt h p (.ref b) := let ⟨o, k, tx, ty, e, c, d⟩ := x; ⟨b, o, k, tx, ty, rfl, e, c, d⟩
theorem PrT.uniq {h : Heap} {p q : Nat × Nat} {b : Addr} (x : PrT h p b) (y : TupAt h q (.ref b)) : q = p := by
  obtain ⟨o, k, tx, ty, e, c, d⟩ := x
  obtain ⟨r, o', k', tx', ty', e0, e', c', d'⟩ := y
  cases e0
  rw [e] at e'
  cases e'
  rw [d] at d'
  injection d' with z _
  have z2 := congrArg (fun a => a.toList) z
  simp at z2
  exact Prod.ext (by omega) (by omega)
theorem pick_pads {h : Heap} {ys : List Pad} (T : Tps h ys) : ∀ {qs : List (Nat × Nat)} {out : List Value}, Paired (fun q v => TupAt h q v ∧ v ∈ ys.map fun x => Value.ref x.2) qs out → ∃ zs : List Pad, out = zs.map (fun x => Value.ref x.2) ∧ qs = zs.map (·.1) ∧ ∀ x ∈ zs, PrT h x.1 x.2 ∧ ∃ y ∈ ys, y.2 = x.2 ∧ y.1 = x.1
  | _, _, .nil => ⟨[], rfl, rfl, by simp⟩
  | _, _, .cons hq t => by
    obtain ⟨zs, e1, e2, e3⟩ := pick_pads T t
    rename_i q v qs out
    obtain ⟨hq1, hq2⟩ := hq
    obtain ⟨y, hy, rfl⟩ := List.mem_map.mp hq2
    have e := (T y hy).uniq hq1
    subst e
    refine ⟨(y.1, y.2) :: zs, by rw [e1]; rfl, by rw [e2]; rfl, fun x hx => ?_⟩
    rcases List.mem_cons.mp hx with rfl | hx
    · exact ⟨T y hy, y, hy, rfl, rfl⟩
    · exact e3 x hx
section
variable {prog : Program} {w : World} {A : Around} {E : Value → Shared → Prop} {s : Shared}
theorem sorted_setP {d : Addr} {xs : List Pad} {Q : Value → Shared → Prop} (hh : A.handled = none) (h64 : xs.length < 64) (S : SetP w s.heap d xs) (T : Tps s.heap xs)
    (h : ∀ h' tk l (zs : List Pad), (∀ b o, s.heap.get? b = some o → h'.get? b = some o) → s.heap.objs.size ≤ l → (∃ e, h'.get? l = some (seqObj "list" (zs.map fun x => Value.ref x.2).toArray e)) → (zs.map (·.1)).Pairwise Row.PLt → (∀ x, x ∈ zs ↔ x ∈ xs) → Q (.ref l) { s with heap := h', toks := tk }) : wpAny (model prog w) A (call (.builtin "sorted") [.ref d]) Q E s := by
  obtain ⟨o, ep, t, ho, hex, hd, hf, hT, hr⟩ := S.ex
  have hf' : t.fits (xs.map pent).toArray.size = true := by simpa using hf
  have ln : (xs.map pent).toArray.size = xs.length := by simp
  obtain ⟨ys, py, hy⟩ := perm_map_inv (f := pent) (ordr_perm (w := w) (d := d) (es := (xs.map pent).toArray) (ep := ep)) (xs := xs) rfl
  have Ty : Tps s.heap ys := fun x hx => T x (py.mem_iff.mp hx)
  have ly := py.length_eq
  apply Calls.call_function_entry kind_sorted plain_sorted entry_sorted (args_sorted1 _)
  unfold Builtin.«sorted»
  refine wpAny_bind (m := checkCount "sorted" 1 1 _) (wpAny_pure (wpAny_bind (collect_set (by simpa using hh) ⟨o, ho, hex, hd⟩ hf' ⟨hT.led, hT.rp⟩ ⟨hT.plain, hT.mask, hr⟩ (by rw [ln, sizeLine_eq]; omega) fun h1 tk vs kp sz lv hv => wpAny_bind (wpAny_newList ?_ (by rw [lv, ln, sizeLine_eq]; omega)))))
  have kp2 : ∀ b o, s.heap.get? b = some o → (h1.push (seqObj "list" vs.toArray 0)).get? b = some o := fun b o e => Heap.get?_push_of_some _ (kp b o e)
  have gL : (h1.push (seqObj "list" vs.toArray 0)).get? h1.objs.size = some (seqObj "list" vs.toArray 0) := Heap.get?_push_size _ rfl
  have ev : vs = ys.map fun x => Value.ref x.2 := by
    refine List.ext_getElem? fun i => ?_
    rw [List.getElem?_map]
    rcases Nat.lt_or_ge i vs.length with c | c
    · obtain ⟨e, he, e2⟩ := hv i vs[i] (List.getElem?_eq_getElem c)
      rw [List.getElem?_eq_getElem c, e2]
      rw [← Array.getElem?_toList, hy, List.getElem?_map] at he
      cases hx : ys[i]? with
      | none => rw [hx] at he; cases he
      | some x =>
        rw [hx] at he
        have he : pent x = e := Option.some.inj he
        rw [Option.map_some, ← pent_snd, he]
    · rw [List.getElem?_eq_none c, List.getElem?_eq_none (by rw [lv, ln] at c; omega)]
      rfl
  have Ty2 : Tps (h1.push (seqObj "list" vs.toArray 0)) ys := fun x hx => (Ty x hx).at fun o e => kp2 _ o e
  have hP : Paired (TupAt (h1.push (seqObj "list" vs.toArray 0))) (ys.map (·.1)) vs := by
    have gen : ∀ (hp : Heap) (l : List Pad), Tps hp l → Paired (TupAt hp) (l.map (·.1)) (l.map fun x => Value.ref x.2) := fun hp l => by
      induction l with
      | nil => intro _; exact .nil
      | cons y l ih => exact fun T => .cons (T y List.mem_cons_self).tup (ih fun x hx => T x (List.mem_cons_of_mem _ hx))
    have := gen _ ys Ty2
    rw [← ev] at this
    exact this
  have bdy : ∀ q ∈ ys.map (·.1), q.2 < 16 := fun q hq => by
    obtain ⟨x, hx, rfl⟩ := List.mem_map.mp hq
    exact (S.bd x (py.mem_iff.mp hx)).2
  refine (show wpAny _ _ _ _ _ { s with heap := h1.push (seqObj "list" vs.toArray 0), toks := tk } from ?_)
  refine wpAny_bind (wpAny_holding (wpAny_call_entry slot_list_sort ⟨_, gL, rfl⟩ entry_list_sort (sort_pairsG (s := { s with heap := h1.push (seqObj "list" vs.toArray 0), toks := tk }) gL hP bdy (((py.map _).nodup_iff).mpr S.nd) (by rw [List.length_map]; omega) fun out qs a1 a2 => ⟨_, rfl, wpAny_pure ⟨_, rfl, ?_⟩⟩) (args_list_sort _)))
  have a1 : Paired (fun q v => TupAt (h1.push (seqObj "list" vs.toArray 0)) q v ∧ v ∈ ys.map fun x => Value.ref x.2) qs out := by rw [← ev]; exact a1
  obtain ⟨zs, e1, e2, e3⟩ := pick_pads Ty2 a1
  refine h _ tk _ zs (fun b o e => ?_) (Nat.le_of_lt sz) ?_ (by rw [← e2]; exact a2.1) (fun x => ?_)
  · have blt : b < h1.objs.size := Heap.lt_size (kp b o e)
    rw [sortedHeap_old (Nat.ne_of_lt blt) (by rw [size_push']; exact Nat.lt_succ_of_lt blt)]
    exact kp2 b o e
  · rw [← e1]
    exact sortedHeap_at gL
  · rw [← py.mem_iff]
    constructor
    · intro hx
      obtain ⟨_, y, hy1, hy2, hy3⟩ := e3 x hx
      have : y = x := Prod.ext hy3 hy2
      rw [← this]
      exact hy1
    · intro hx
      have : x.1 ∈ qs := (a2.2 x.1).mpr (List.mem_map.mpr ⟨x, hx, rfl⟩)
      rw [e2] at this
      obtain ⟨z, hz, ez⟩ := List.mem_map.mp this
      obtain ⟨_, y, hy1, hy2, hy3⟩ := e3 z hz
      have nd : (ys.map (·.1)).Nodup := ((py.map _).nodup_iff).mpr S.nd
      obtain ⟨i, hi⟩ := List.getElem?_of_mem hx
      obtain ⟨j, hj⟩ := List.getElem?_of_mem hy1
      obtain ⟨il, ei⟩ := List.getElem?_eq_some_iff.mp hi
      obtain ⟨jl, ej⟩ := List.getElem?_eq_some_iff.mp hj
      have ij := nd_inj2 nd (i := i) (j := j) (by simpa using il) (by simpa using jl) (by simp [ei, ej, hy3, ez])
      subst ij
      have yx : y = x := by rw [← ei, ← ej]
      have : z = x := Prod.ext ez (by rw [← hy2, yx])
      rw [← this]
      exact hz
end
def spO (w : World) (a : Addr) (xs : List Pad) : HO := .ext fun h => SetP w h a xs
theorem spO_ok {P : Program} {w : World} {H : Hp} {h : Heap} {a : Addr} {xs : List Pad} (S : SetP w h a xs) : ObjOk P w H h a (spO w a xs) := ⟨S, by obtain ⟨o, _, _, e, _⟩ := S.ex; exact ⟨o, e⟩, fun _ _ S' k => S'.at k⟩
def Pds (H : Hp) (xs : List Pad) : Prop := ∀ x ∈ xs, H x.2 = some (.tup [.int (x.1.1 : Int), .int (x.1.2 : Int)])
def rSetNewP (K : PySem.W.Frag) (w : World) : List V → Hp → VK → Prop := fun vs H Q => ∃ (l : Addr) (xs : List Pad), vs = [.ref l] ∧ SqL K H l (xs.map fun x => V.ref x.2) ∧ Pds H xs ∧ (xs.map (·.1)).Nodup ∧ (∀ x ∈ xs, x.1.1 < 16 ∧ x.1.2 < 16) ∧ xs.length < 63 ∧ ∀ (a : Addr) (cur : List Pad), H a = none → (∀ x, x ∈ cur ↔ x ∈ xs) → cur.length = xs.length → Q (.ref a) (upd H a (spO w a cur))
def rSetXorP (w : World) : R2 := fun x y H Q => ∃ (a b : Addr) (xs ys : List Pad), x = .ref a ∧ y = .ref b ∧ H a = some (spO w a xs) ∧ H b = some (spO w b ys) ∧ Pds H xs ∧ Pds H ys ∧ xs.length + ys.length < 63 ∧ ∀ (c : Addr) (zs : List Pad), H c = none → (∀ x, x ∈ zs ↔ (x ∈ xs ∧ x.1 ∉ ys.map (·.1)) ∨ (x ∈ ys ∧ x.1 ∉ xs.map (·.1))) → zs.length < 63 → Q (.ref c) (upd H c (spO w c zs))
def rSetSortP (w : World) : List V → Hp → VK → Prop := fun vs H Q => ∃ (d : Addr) (xs : List Pad), vs = [.ref d] ∧ H d = some (spO w d xs) ∧ Pds H xs ∧ xs.length < 64 ∧ ∀ (l : Addr) (zs : List Pad), H l = none → (∀ x, x ∈ zs ↔ x ∈ xs) → (zs.map (·.1)).Pairwise Row.PLt → zs.length < 64 → Q (.ref l) (upd H l (.lst (zs.map fun x => V.ref x.2)))
section
variable {X : Cx} {pins : List (Addr × Obj)} {σ : List (Option V)} {H : Hp} {s : Shared}
theorem Inv.prt (I : Inv X pins σ H s) {xs : List Pad} (h : Pds H xs) : Tps s.heap xs := fun x hx => by
  obtain ⟨it2, r2, ⟨o, g, c, k, dd⟩, _⟩ := I.tuple (a := x.2) (xs := [.int (x.1.1 : Int), .int (x.1.2 : Int)]) (.inl (.inl (h x hx)))
  obtain ⟨u, v, rfl, ⟨tx, rfl⟩, ⟨ty, rfl⟩⟩ := vals2 r2
  exact ⟨o, k, tx, ty, g, c, dd⟩
theorem vals_refs : ∀ {xs : List Pad} {its : List Value}, Vals (xs.map fun x => V.ref x.2) its → its = xs.map fun x => Value.ref x.2
  | [], _, h => by cases h; rfl
  | x :: xs, _, h => by
    cases h with
    | cons r t =>
      rename_i u l
      have r : u = Value.ref x.2 := by
        cases r
        rfl
      rw [r, vals_refs t]
      rfl
theorem refs_vals : ∀ xs : List Pad, Vals (xs.map fun x => V.ref x.2) (xs.map fun x => Value.ref x.2)
  | [] => .nil
  | x :: xs => .cons rfl (refs_vals xs)
theorem call_setNewP (hc : X.calm = true) (hu : X.A.units + 16 < cLine) : CallR X (.type "set") (rSetNewP X.K X.w) := by
  intro pins s σ H vs us Q I r h
  obtain ⟨l, xs, rfl, hL, hT, nd, bd, h63, q⟩ := h
  obtain ⟨u, rfl, rx⟩ := vals1 r
  cases rx
  obtain ⟨its, r', pl, hz⟩ := I.list hL
  have ei := vals_refs r'
  subst ei
  refine set_ofP (its := xs) (I.ok.hd hc) hu (let ⟨o, n, e, c, _, dt⟩ := pl; ⟨o, e, c, n, dt⟩) (I.prt hT) (by simp) nd bd h63 fun h' tk cur kp S m lc => ?_
  exact ⟨.ref s.heap.objs.size, _, I.laid (t' := tk) (o := spO X.w s.heap.objs.size cur) kp (Nat.le_refl _) (spO_ok S), rfl, q _ cur (I.hok.fresh (Nat.le_refl _)) m lc⟩
theorem op_setXorP (hu : X.A.units + 1 < cLine) : OpR X (binaryOp .BitXor) (rSetXorP X.w) := by
  intro pins s σ H x y v u Q I rx ry h
  obtain ⟨a, b, xs, ys, rfl, rfl, ha, hb, ta, tb, h63, q⟩ := h
  cases rx
  cases ry
  have Sa : SetP X.w s.heap a xs := (I.hok _ _ ha).1
  have Sb : SetP X.w s.heap b ys := (I.hok _ _ hb).1
  refine set_xorP hu h63 Sa Sb (I.prt ta) (I.prt tb) fun h' zs kp S m lz => ?_
  exact ⟨.ref s.heap.objs.size, _, I.laid (t' := s.toks) (o := spO X.w s.heap.objs.size zs) kp (Nat.le_refl _) (spO_ok S), rfl, q _ zs (I.hok.fresh (Nat.le_refl _)) m lz⟩
theorem call_setSortP (hc : X.calm = true) : CallR X (.builtin "sorted") (rSetSortP X.w) := by
  intro pins s σ H vs us Q I r h
  obtain ⟨d, xs, rfl, hd, hT, h64, q⟩ := h
  obtain ⟨u, rfl, rx⟩ := vals1 r
  cases rx
  have S : SetP X.w s.heap d xs := (I.hok _ _ hd).1
  refine sorted_setP (I.ok.hd hc) h64 S (I.prt hT) fun h' tk l zs kp sz hl pw m => ?_
  obtain ⟨e, hl⟩ := hl
  have lz : zs.length ≤ xs.length := by
    have nd : (zs.map (·.1)).Nodup := Row.plt_nodup pw
    have : (zs.map (·.1)).length ≤ (xs.map (·.1)).length := List.Nodup.length_le_of_subset nd fun p hp => by
      obtain ⟨x, hx, rfl⟩ := List.mem_map.mp hp
      exact List.mem_map.mpr ⟨x, (m x).mp hx, rfl⟩
    simpa using this
  refine ⟨.ref l, _, I.laid (t' := tk) (o := .lst (zs.map fun x => V.ref x.2)) kp sz ⟨?_, _, e, refs_vals zs, hl⟩, rfl, q _ zs (I.hok.fresh sz) m pw (by omega)⟩
  rw [List.length_map]
  exact Nat.le_trans (Nat.le_of_lt (Nat.lt_of_le_of_lt lz h64)) (by decide)
end
end L2
set_option Elab.async false
set_option linter.all false
set_option maxRecDepth 100000
set_option maxHeartbeats 4000000
namespace H
open PySem L2 Nim
def top (i : Nat) : Stmt := PySem.Challenge.pw_coinrows_k11_a_board_turned.main.body.getD i (.Pass ⟨0, 0, 0, 0⟩)
abbrev s_law_cell_at : Stmt := top 17
abbrev n_law_cell_at : List Str := ["script", "k"]
abbrev p_law_cell_at : List Str := ["script", "k"]
theorem sc_law_cell_at : FnScope n_law_cell_at p_law_cell_at (defScope s_law_cell_at) := ⟨rfl, rfl, rfl, by decide +kernel, rfl, by decide +kernel, by decide +kernel⟩
structure LenOnly (mg : Str → Option Value) : Prop where
  n_len : mg "len" = none
section
variable {P : Program} {w : World} {K : PySem.W.Frag} {mg : Str → Option Value} {base : Heap}
theorem ok_cell (D : HasDef K mg "_law_cell_at" s_law_cell_at) (n_len : mg "len" = none) : Callee P w K mg base "_law_cell_at" 1 p_law_cell_at (spCell K) := by
  refine D.ok sc_law_cell_at (fun _ _ _ _ _ _ us hl => match us, hl with | [_, _], _ => rfl) (fun vs H Q E h => ?_) (fun f cdv A outer s H vs Q E hr h => ?_)
  · obtain ⟨a, ns, k, rfl, _⟩ := h
    rfl
  obtain ⟨a, ns, k, rfl, hS, q⟩ := h
  have T : LenOnly mg := ⟨n_len⟩
  refine ⟨_, (pss_cons (ps_if (pt_cmpR op_lt (pv 1) (pe_callB call_len_seq rfl T.n_len bt_len (pa_cons (pv 0) pa_nil)) (nomark _)) (pss_one (ps_ret (pe_ix ix_list (pv 0) (pv 1) (fun _ _ => rfl)))) pss_nil)
    (pss_one (ps_ret pe_int))), ?_⟩
  rw [show start n_law_cell_at [V.ref a, V.int k] = [some (V.ref a), some (V.int k)] from rfl]
  simp only [tSeq, tIfS, tRet, tRetN, tNext, tOr, tAnd, tNot, tTest, tB, tOp, tUn, tVar, tC, tCall, tCons, tNil, rI0, rI, rU, tGT, tAsg, gName, tDrop, tCB, tAndV, tOrV, tNotV, tIf, tChain, tTup, tLst, tNever, cxK, bkK, noxK, tRaise, tTry, xTry, endsH, tCallH]
  simp
  refine ⟨_, .inl hS, ?_⟩
  rw [List.length_map]
  refine ite2 (fun c => ?_) (fun c => ?_)
  · refine ⟨a, _, _, .int (cell ns k), rfl, rfl, hS, atI_nat ?_, q⟩
    rw [List.getElem?_map, List.getElem?_eq_getElem (by omega)]
    show some (V.int ns[k]) = _
    rw [cell, List.getD_eq_getElem?_getD, List.getElem?_eq_getElem (by omega)]
    rfl
  · have e : cell ns k = 0 := by
      rw [cell, List.getD_eq_getElem?_getD, List.getElem?_eq_none (by omega)]
      rfl
    rw [e] at q
    exact q
end
abbrev s_law_rule : Stmt := top 18
abbrev n_law_rule : List Str := ["cell"]
abbrev p_law_rule : List Str := ["cell"]
theorem sc_law_rule : FnScope n_law_rule p_law_rule (defScope s_law_rule) := ⟨rfl, rfl, rfl, by decide +kernel, rfl, by decide +kernel, by decide +kernel⟩
section
variable {P : Program} {w : World} {K : PySem.W.Frag} {mg : Str → Option Value} {base : Heap}
theorem menu_word (i : Int) (h : i % 3 ≠ 2) : atI [V.str "most", V.str "just"] (i % 3) = some (.str (word (i % 3).toNat)) := by
  rcases (by omega : i % 3 = 0 ∨ i % 3 = 1) with e | e <;> rw [e] <;> rfl
theorem ok_rule (D : HasDef K mg "_law_rule" s_law_rule) : Callee P w K mg base "_law_rule" 1 p_law_rule (spRule 3 40) := by
  refine D.ok sc_law_rule (fun _ _ _ _ _ _ us hl => match us, hl with | [_], _ => rfl) (fun vs H Q E h => ?_) (fun f cdv A outer s H vs Q E hr h => ?_)
  · obtain ⟨c, rfl, _⟩ := h
    rfl
  obtain ⟨c, rfl, q⟩ := h
  refine ⟨_, (pss_cons (ps_if (pt_cmpR op_eq (pe_op op_mod (pv 0) pe_int) pe_int (nomark _)) (pss_one (ps_ret (pe_tup (pa_cons pe_str (pa_cons (pe_op op_add pe_int (pe_op op_mod (pe_op op_fdiv (pv 0) pe_int) pe_int)) pa_nil))))) pss_nil)
    (pss_one (ps_ret (pe_tup (pa_cons (pe_ix ix_list (pe_lst (pa_cons pe_str (pa_cons pe_str pa_nil))) (pe_op op_mod (pv 0) pe_int) (fun _ _ => rfl)) (pa_cons (pe_op op_add pe_int (pe_op op_mod (pe_op op_fdiv (pv 0) pe_int) pe_int)) pa_nil)))))), ?_⟩
  rw [show start n_law_rule [V.int c] = [some (V.int c)] from rfl]
  simp only [tSeq, tIfS, tRet, tRetN, tNext, tOr, tAnd, tNot, tTest, tB, tOp, tUn, tVar, tC, tCall, tCons, tNil, rI0, rI, rU, tGT, tAsg, gName, tDrop, tCB, tAndV, tOrV, tNotV, tIf, tChain, tTup, tLst, tNever, cxK, bkK, noxK, tRaise, tTry, xTry, endsH, tCallH]
  simp
  refine ⟨rfl, ?_⟩
  have b0 := Int.emod_nonneg (c / 3) (by decide : (40 : Int) ≠ 0)
  have a0 := Int.emod_nonneg (c / 3) (by decide : (3 : Int) ≠ 0)
  by_cases e : c % 3 = 2
  · refine .inr ⟨by rw [decide_eq_true (by rw [e])], ⟨by decide, by decide⟩, by decide, fun p hp => q _ _ (same_new hp _) ?_ hp⟩
    rw [upd_same, ruleOf, if_pos e]
    unfold ruleV
    congr 4
    simp
    omega
  · refine .inl ⟨by rw [decide_eq_false (fun z => e (V.int.inj z))], by decide, fun p hp => ?_⟩
    refine ⟨p, _, _, _, rfl, rfl, .of upd_same, menu_word c e, ⟨by decide, by decide⟩, by decide, fun p2 hp2 => q _ _ ((same_new hp _).trans (same_new hp2 _)) ?_ ((same_new hp _).free hp2)⟩
    rw [upd_same, ruleOf, if_neg e]
    unfold ruleV
    congr 4
    simp
    omega
end
abbrev s_check_rule : Stmt := top 8
abbrev n_check_rule : List Str := ["rule"]
abbrev p_check_rule : List Str := ["rule"]
theorem sc_check_rule : FnScope n_check_rule p_check_rule (defScope s_check_rule) := ⟨rfl, rfl, rfl, by decide +kernel, rfl, by decide +kernel, by decide +kernel⟩
abbrev gk : List (Str × V) := [("most", .int 3), ("just", .int 3), ("run", .int 40)]
def spCheckRule (K : PySem.W.Frag) : Sp := fun vs H Q _ => ∃ (pr : Addr) (r : Row.Rule), vs = [.ref pr] ∧ SqT K H pr (ruleV r) ∧ Row.Good r ∧ Q .non H
structure TxRu (K : PySem.W.Frag) (w : World) (mg : Str → Option Value) : Prop where
  GREATEST_K : GDic K w.params mg "GREATEST_K" gk
theorem gk_at {r : Row.Rule} (hg : Row.Good r) : ∃ m : Nat, atS gk (word r.1) = some (.int (m : Int)) ∧ 1 ≤ r.2 ∧ r.2 ≤ m := by
  obtain ⟨t, k⟩ := r
  rcases hg with ⟨h | h, h1, h3⟩ | ⟨h, h1, h3⟩ <;> simp only at h h1 h3 ⊢ <;> subst h
  · exact ⟨3, by decide, h1, h3⟩
  · exact ⟨3, by decide, h1, h3⟩
  · exact ⟨40, by decide, h1, h3⟩
section
variable {P : Program} {w : World} {K : PySem.W.Frag} {mg : Str → Option Value} {base : Heap}
theorem ok_checkRule (D : HasDef K mg "check_rule" s_check_rule) (T : TxRu K w mg) : Callee P w K mg base "check_rule" 1 p_check_rule (spCheckRule K) := by
  refine D.ok sc_check_rule (fun _ _ _ _ _ _ us hl => match us, hl with | [_], _ => rfl) (fun vs H Q E h => ?_) (fun f cdv A outer s H vs Q E hr h => ?_)
  · obtain ⟨pr, r, rfl, _⟩ := h
    rfl
  obtain ⟨pr, r, rfl, hR, hg, q⟩ := h
  obtain ⟨m, hm, h1, h2⟩ := gk_at hg
  refine ⟨_, (pss_cons (ps_if (pt_cmp (pc_knotin T.GREATEST_K (pe_ix ix_tup (pv 0) pe_int (fun _ _ => rfl)))) (pss_one ps_never) pss_nil)
    (pss_one (ps_if (PW.pt (pw_or (pt_cmpR op_lt (pe_ix ix_tup (pv 0) pe_int (fun _ _ => rfl)) pe_int (nomark _)) (pw_or1 (pt_cmpR op_gt (pe_ix ix_tup (pv 0) pe_int (fun _ _ => rfl)) (pe_kget T.GREATEST_K (pe_ix ix_tup (pv 0) pe_int (fun _ _ => rfl)) (fun _ _ => rfl)) (nomark _))))) (pss_one ps_never) pss_nil))), ?_⟩
  rw [show start n_check_rule [V.ref pr] = [some (V.ref pr)] from rfl]
  refine seq_of (ifS_of (ev_tB (ev_kin (ev_rule0 rfl hR))) (fun c => absurd c (by rw [hm]; simp)) (fun _ => next_of ?_))
  dsimp only
  refine ifS_of (ev_or (ev_test (ev_i0 (ev_rule1 rfl hR) ev_c)) (fun _ => ev_test (ev_i0 (ev_rule1 rfl hR) (ev_kget (ev_rule0 rfl hR) hm)))) (fun c => ?_) (fun _ => ?_)
  · rcases Bool.or_eq_true_iff.mp c with c | c <;> have c := of_decide_eq_true c <;> omega
  · exact q
end
abbrev s_rises : Stmt := top 11
abbrev n_rises : List Str := ["places", "greatest", "ahead", "place"]
abbrev p_rises : List Str := ["places", "greatest"]
theorem sc_rises : FnScope n_rises p_rises (defScope s_rises) := ⟨rfl, rfl, rfl, by decide +kernel, rfl, by decide +kernel, by decide +kernel⟩
def Rises (g : Int) (ahead : Int) : List Int → Bool
  | [] => true
  | p :: r => if p ≤ ahead ∨ p > g then false else Rises g p r
theorem rises_take {g ahead : Int} : ∀ {ps : List Int} {i : Nat} {x : Int}, ps[i]? = some x → (∀ k y, k < i → ps[k]? = some y → ¬ (y ≤ (if k = 0 then ahead else ps.getD (k - 1) 0) ∨ y > g)) → (x ≤ (if i = 0 then ahead else ps.getD (i - 1) 0) ∨ x > g) → Rises g ahead ps = false
  | [], i, x, h, _, _ => by simp at h
  | p :: r, 0, x, h, _, c => by
    simp at h
    subst h
    rw [Rises, if_pos (by simpa using c)]
  | p :: r, i + 1, x, h, hk, c => by
    have h0 := hk 0 p (by omega) rfl
    rw [Rises, if_neg (by simpa using h0)]
    refine rises_take (i := i) (x := x) (by simpa using h) (fun k y hk' hy => ?_) ?_
    · have := hk (k + 1) y (by omega) (by simpa using hy)
      cases k with
      | zero => simpa using this
      | succ k => simpa using this
    · cases i with
      | zero => simpa using c
      | succ i => simpa using c
theorem rises_all {g ahead : Int} : ∀ {ps : List Int}, (∀ k y, ps[k]? = some y → ¬ (y ≤ (if k = 0 then ahead else ps.getD (k - 1) 0) ∨ y > g)) → Rises g ahead ps = true
  | [], _ => rfl
  | p :: r, hk => by
    have h0 := hk 0 p rfl
    rw [Rises, if_neg (by simpa using h0)]
    refine rises_all fun k y hy => ?_
    have := hk (k + 1) y (by simpa using hy)
    cases k with
    | zero => simpa using this
    | succ k => simpa using this
def spRises (K : PySem.W.Frag) : Sp := fun vs H Q _ => ∃ (pp : Addr) (ps : List Int) (g : Int), vs = [.ref pp, .int g] ∧ SqL K H pp (ps.map V.int) ∧ Q (.bl (Rises g (-1) ps)) H
section
variable {P : Program} {w : World} {K : PySem.W.Frag} {mg : Str → Option Value} {base : Heap}
theorem ok_rises (D : HasDef K mg "rises" s_rises) : Callee P w K mg base "rises" 1 p_rises (spRises K) := by
  refine D.ok sc_rises (fun _ _ _ _ _ _ us hl => match us, hl with | [_, _], _ => rfl) (fun vs H Q E h => ?_) (fun f cdv A outer s H vs Q E hr h => ?_)
  · obtain ⟨pp, ps, g, rfl, _⟩ := h
    rfl
  obtain ⟨pp, ps, g, rfl, hp, q⟩ := h
  refine ⟨_, (pss_cons (ps_set (i := 2) sc_rises.nd rfl (Or.inl rfl) (pe_un un_neg pe_int))
    (pss_cons (ps_for PassesOwn.never rfl (pi_list (pv 0)) (pg_name (i := 3) sc_rises.nd rfl (Or.inl rfl)) (pss_cons (ps_if (PW.pt (pw_or (pt_cmpR op_le (pv 3) (pv 2) (nomark _)) (pw_or1 (pt_cmpR op_gt (pv 3) (pv 1) (nomark _))))) (pss_one (ps_ret pe_bl)) pss_nil)
    (pss_one (ps_set (i := 2) sc_rises.nd rfl (Or.inl rfl) (pv 3)))))
    (pss_one (ps_ret pe_bl)))), ?_⟩
  rw [show start n_rises [V.ref pp, V.int g] = [some (V.ref pp), some (V.int g), none, none] from rfl]
  refine seq_of (asg_of (ev_u ev_c) ?_)
  dsimp only
  refine seq_of ⟨_, rfl, pp, rfl, ⟨_, hp⟩, ?_⟩
  refine for_list (xs := ps.map V.int) (fun i σ H' => H' = H ∧ (∀ k y, k < i → ps[k]? = some y → ¬ (y ≤ (if k = 0 then -1 else ps.getD (k - 1) 0) ∨ y > g)) ∧ ∃ u, σ = [some (V.ref pp), some (V.int g), some (V.int (if i = 0 then -1 else ps.getD (i - 1) 0)), u]) ⟨rfl, fun k y hk => by omega, none, rfl⟩ ?_ ?_ ?_
  · rintro i σ H' _ ⟨rfl, _⟩
    exact hp
  · rintro i x σ H' hx ⟨rfl, hk, u, rfl⟩
    rw [List.getElem?_map] at hx
    cases e : ps[i]? with
    | none => rw [e] at hx; cases hx
    | some y =>
      rw [e] at hx
      cases hx
      dsimp only [gName]
      refine seq_of (ifS_of (ev_or (ev_test (ev_i0 (ev_var rfl) (ev_var rfl))) (fun _ => ev_test (ev_i0 (ev_var rfl) (ev_var rfl)))) (fun c => ?_) (fun c => next_of ?_))
      · have c : y ≤ (if i = 0 then -1 else ps.getD (i - 1) 0) ∨ y > g := (Bool.or_eq_true_iff.mp c).imp of_decide_eq_true of_decide_eq_true
        refine ret_of ev_c ?_
        rw [rises_take e hk c] at q
        exact q
      · have c' : ¬ (y ≤ (if i = 0 then -1 else ps.getD (i - 1) 0) ∨ y > g) := by
          rw [Bool.or_eq_false_iff] at c
          exact fun z => z.elim (of_decide_eq_false c.1) (of_decide_eq_false c.2)
        refine asg_of (ev_var rfl) ⟨rfl, fun k z hki hz => ?_, some (V.int y), ?_⟩
        · by_cases ck : k = i
          · subst ck
            rw [e] at hz
            cases hz
            exact c'
          · exact hk k z (by omega) hz
        · have e3 : (if i + 1 = 0 then (-1 : Int) else ps.getD (i + 1 - 1) 0) = y := by
            rw [if_neg (Nat.succ_ne_zero i), Nat.add_sub_cancel, List.getD_eq_getElem?_getD, e]
            rfl
          rw [e3]
          rfl
  · rintro σ H' ⟨rfl, hk, u, rfl⟩
    dsimp only
    refine ret_of ev_c ?_
    rw [rises_all fun k y hy => hk k y (by rw [List.length_map]; exact (List.getElem?_eq_some_iff.mp hy).1) hy] at q
    exact q
structure CnRi (P : Program) (w : World) (K : PySem.W.Frag) (mg : Str → Option Value) (base : Heap) : Prop where
  rises : Callee P w K mg base "rises" 1 p_rises (spRises K)
end
abbrev s_fits : Stmt := top 12
abbrev n_fits : List Str := ["rule", "places", "greatest"]
abbrev p_fits : List Str := ["rule", "places", "greatest"]
theorem sc_fits : FnScope n_fits p_fits (defScope s_fits) := ⟨rfl, rfl, rfl, by decide +kernel, rfl, by decide +kernel, by decide +kernel⟩
theorem rises_at {g ahead : Int} : ∀ {ps : List Int}, Rises g ahead ps = true → ∀ k y, ps[k]? = some y → ¬ (y ≤ (if k = 0 then ahead else ps.getD (k - 1) 0) ∨ y > g)
  | [], _, k, y, h => by simp at h
  | p :: r, hr, k, y, h => by
    rw [Rises] at hr
    by_cases c : p ≤ ahead ∨ p > g
    · rw [if_pos c] at hr
      cases hr
    · rw [if_neg c] at hr
      cases k with
      | zero =>
        simp at h
        subst h
        simpa using c
      | succ k =>
        have := rises_at hr k y (by simpa using h)
        cases k with
        | zero => simpa using this
        | succ k => simpa using this
theorem up_of {ts : List Int} (h : ∀ k, 1 ≤ k → k < ts.length → ts.getD (k - 1) 0 < ts.getD k 0) (j : Nat) : ∀ (m : Nat), j + m < ts.length → ts.getD j 0 + (m : Int) ≤ ts.getD (j + m) 0
  | 0, _ => by simp
  | m + 1, hm => by
    have a := up_of h j m (by omega)
    have b := h (j + (m + 1)) (by omega) hm
    rw [show j + (m + 1) - 1 = j + m by omega] at b
    omega
def fitsB (g : Int) (r : Row.Rule) (ts : List Int) : Bool :=
  if ts = [] ∨ Rises g (-1) ts = false then false
  else if r.1 = 1 then decide (ts.length = r.2)
  else if r.1 = 2 ∧ (ts.length : Int) ≤ ts.getD (ts.length - 1) 0 - ts.getD 0 0 then false
  else decide (ts.length ≤ r.2)
theorem getD_at {ts : List Int} {k : Nat} (h : k < ts.length) : ts[k]? = some (ts.getD k 0) := by
  rw [List.getD_eq_getElem?_getD, List.getElem?_eq_getElem h]
  rfl
theorem evg_eqNil {K : PySem.W.Frag} {σ : St} {H : Hp} {t : TE} {p : Addr} {xs : List Int} (ha : EvE t σ H (.ref p)) (h : SqL K H p (xs.map V.int)) : EvG (tOp (rEqD K 0) t (tLst tNil)) σ H (.bl (decide (xs = []))) := fun Q q =>
  ha _ ⟨by decide, fun r hr => ⟨false, zd xs, zd [], dat_ints ((same_new hr _).seq h), dat_ints (xs := []) (.of upd_same), fun b hb => by
    have e : b = decide (xs = []) := by
      rw [Bool.eq_iff_iff, hb]
      simp only [decide_eq_true_eq]
      exact ⟨fun z => zd_inj z, fun z => by rw [z]⟩
    rw [e]
    exact q _ (same_new hr _)⟩⟩
def spFits (K : PySem.W.Frag) : Sp := fun vs H Q _ => ∃ (pr pp : Addr) (r : Row.Rule) (ts : List Int) (g : Int), vs = [.ref pr, .ref pp, .int g] ∧ SqT K H pr (ruleV r) ∧ r.1 ≤ 2 ∧ SqL K H pp (ts.map V.int) ∧ ∀ H', Same H H' → Q (.bl (fitsB g r ts)) H'
structure TxFi (mg : Str → Option Value) : Prop where
  n_len : mg "len" = none
section
variable {P : Program} {w : World} {K : PySem.W.Frag} {mg : Str → Option Value} {base : Heap}
set_option pp.deepTerms true in
theorem ok_fits (D : HasDef K mg "fits" s_fits) (T : TxFi mg) (C : CnRi P w K mg base) : Callee P w K mg base "fits" 2 p_fits (spFits K) := by
  refine D.ok sc_fits (fun _ _ _ _ _ _ us hl => match us, hl with | [_, _, _], _ => rfl) (fun vs H Q E h => ?_) (fun f cdv A outer s H vs Q E hr h => ?_)
  · obtain ⟨pr, pp, r, ts, g, rfl, _⟩ := h
    rfl
  obtain ⟨pr, pp, r, ts, g, rfl, hR, r2, hT, q⟩ := h
  refine ⟨_, (pss_cons (ps_if (PW.pt (pw_or (pt_cmpR (op_eqD (n := 0) hr (by decide)) (pv 1) (pe_lst pa_nil) (nomark _)) (pw_or1 (pt_not (pt_val (pe_callC C.rises hr (by omega) rfl (pa_cons (pv 1) (pa_cons (pv 2) pa_nil)))))))) (pss_one (ps_ret pe_bl)) pss_nil)
    (pss_cons (ps_if (pt_cmpR op_eq (pe_ix ix_tup (pv 0) pe_int (fun _ _ => rfl)) pe_str (nomark _)) (pss_one (ps_ret (pe_cmpR op_eq (pe_callB call_len_seq rfl T.n_len bt_len (pa_cons (pv 1) pa_nil)) (pe_ix ix_tup (pv 0) pe_int (fun _ _ => rfl)) (nomark _)))) pss_nil)
    (pss_cons (ps_if (PW.pt (pw_and (pt_cmpR op_eq (pe_ix ix_tup (pv 0) pe_int (fun _ _ => rfl)) pe_str (nomark _)) (pw_and1 (pt_cmpR op_ge (pe_op op_sub (pe_ix ix_list (pv 1) (pe_un un_neg pe_int) (fun _ _ => rfl)) (pe_ix ix_list (pv 1) pe_int (fun _ _ => rfl))) (pe_callB call_len_seq rfl T.n_len bt_len (pa_cons (pv 1) pa_nil)) (nomark _))))) (pss_one (ps_ret pe_bl)) pss_nil)
    (pss_one (ps_ret (pe_cmpR op_le (pe_callB call_len_seq rfl T.n_len bt_len (pa_cons (pv 1) pa_nil)) (pe_ix ix_tup (pv 0) pe_int (fun _ _ => rfl)) (nomark _))))))), ?_⟩
  rw [show start n_fits [V.ref pr, V.ref pp, V.int g] = [some (V.ref pr), some (V.ref pp), some (V.int g)] from rfl]
  have ll : ((ts.map V.int).length : Int) = (ts.length : Int) := by rw [List.length_map]
  unfold fitsB at q
  refine seq_of (ifG_of (evg_or (evg_test (evg_eqNil (ev_var rfl) hT)) fun _ H1 s1 => evg_t (ev_not (ev_tB (ev_call (v := .bl (Rises g (-1) ts)) (ev_cons (ev_var rfl) (ev_cons (ev_var rfl) ev_nil)) (fun Q q => ⟨pp, ts, g, rfl, s1.seq hT, q⟩))))) (fun c H1 s1 => ?_) (fun c H1 s1 => next_of ?_))
  · refine ret_of ev_c ?_
    rw [if_pos ((Bool.or_eq_true_iff.mp c).imp of_decide_eq_true (fun z => by simpa using z))] at q
    exact q _ s1
  dsimp only
  have c := Bool.or_eq_false_iff.mp c
  have hne : ts ≠ [] := of_decide_eq_false c.1
  have ri : Rises g (-1) ts = true := by simpa using c.2
  rw [if_neg (by rw [ri]; simp [hne])] at q
  have hR1 := s1.tup hR
  have hT1 := s1.seq hT
  refine seq_of (ifS_of (ev_test (ev_isJust rfl hR1 r2)) (fun c => ?_) (fun c => next_of ?_))
  · have c := of_decide_eq_true c
    refine ret_of (ev_eqI (ev_lenL (ev_cons (ev_var rfl) ev_nil) hT1) (ev_rule1 rfl hR1)) ?_
    rw [if_pos c] at q
    have e : decide (((ts.map V.int).length : Int) = (r.2 : Int)) = decide (ts.length = r.2) := by rw [ll, Bool.eq_iff_iff, decide_eq_true_eq, decide_eq_true_eq]; omega
    rw [e]
    exact q _ s1
  dsimp only
  have c := of_decide_eq_false c
  rw [if_neg c] at q
  have hp : 0 < ts.length := List.length_pos_iff.mpr hne
  refine seq_of (ifS_of (ev_and (ev_test (ev_isRun rfl hR1 r2)) fun _ => ev_test (ev_i0 (ev_i0 (ev_atEnd (ev_var rfl) (ev_u ev_c) hT1 hne) (ev_atI 0 (ev_var rfl) ev_c hT1 rfl hp)) (ev_lenL (ev_cons (ev_var rfl) ev_nil) hT1))) (fun c => ?_) (fun c => next_of ?_))
  · have c := Bool.and_eq_true_iff.mp c
    have c2 := of_decide_eq_true c.2
    refine ret_of ev_c ?_
    rw [if_pos ⟨of_decide_eq_true c.1, by omega⟩] at q
    exact q _ s1
  dsimp only
  have c3 : ¬ (r.1 = 2 ∧ (ts.length : Int) ≤ ts.getD (ts.length - 1) 0 - ts.getD 0 0) := by
    rintro ⟨h1, h2⟩
    rw [decide_eq_true h1, Bool.true_and] at c
    have := of_decide_eq_false c
    omega
  rw [if_neg c3] at q
  refine ret_of (ev_i0 (ev_lenL (ev_cons (ev_var rfl) ev_nil) hT1) (ev_rule1 rfl hR1)) ?_
  have e : decide (((ts.map V.int).length : Int) ≤ (r.2 : Int)) = decide (ts.length ≤ r.2) := by rw [ll, Bool.eq_iff_iff, decide_eq_true_eq, decide_eq_true_eq]; omega
  rw [e]
  exact q _ s1
end
abbrev s_check_board_place : Stmt := top 9
abbrev n_check_board_place : List Str := ["x", "y"]
abbrev p_check_board_place : List Str := ["x", "y"]
theorem sc_check_board_place : FnScope n_check_board_place p_check_board_place (defScope s_check_board_place) := ⟨rfl, rfl, rfl, by decide +kernel, rfl, by decide +kernel, by decide +kernel⟩
def spCheckBP : Sp := fun vs H Q _ => ∃ x y : Nat, vs = [.int (x : Int), .int (y : Int)] ∧ x < 16 ∧ y < 16 ∧ Q .non H
structure TxBp (mg : Str → Option Value) : Prop where
  GREATEST_BOARD_PLACE : GInt mg "GREATEST_BOARD_PLACE" 15
section
variable {P : Program} {w : World} {K : PySem.W.Frag} {mg : Str → Option Value} {base : Heap}
theorem ok_checkBP (D : HasDef K mg "check_board_place" s_check_board_place) (T : TxBp mg) : Callee P w K mg base "check_board_place" 1 p_check_board_place spCheckBP := by
  refine D.ok sc_check_board_place (fun _ _ _ _ _ _ us hl => match us, hl with | [_, _], _ => rfl) (fun vs H Q E h => ?_) (fun f cdv A outer s H vs Q E hr h => ?_)
  · obtain ⟨x, y, rfl, _⟩ := h
    rfl
  obtain ⟨x, y, rfl, hx, hy, q⟩ := h
  refine ⟨_, (pss_one (ps_if (PW.pt (pw_or (pt_cmpR op_lt (pv 0) pe_int (nomark _)) (pw_or (pt_cmpR op_gt (pv 0) (pe_globI T.GREATEST_BOARD_PLACE) (nomark _)) (pw_or (pt_cmpR op_lt (pv 1) pe_int (nomark _)) (pw_or1 (pt_cmpR op_gt (pv 1) (pe_globI T.GREATEST_BOARD_PLACE) (nomark _))))))) (pss_one ps_never) pss_nil)), ?_⟩
  rw [show start n_check_board_place [V.int x, V.int y] = [some (V.int x), some (V.int y)] from rfl]
  refine ifS_of (ev_or (ev_test (ev_i0 (ev_var rfl) ev_c)) (fun _ => ev_or (ev_test (ev_i0 (ev_var rfl) ev_c)) (fun _ => ev_or (ev_test (ev_i0 (ev_var rfl) ev_c)) (fun _ => ev_test (ev_i0 (ev_var rfl) ev_c))))) (fun c => ?_) (fun _ => ?_)
  · simp only [Bool.or_eq_true, decide_eq_true_eq] at c
    omega
  · exact q
end
abbrev s_check_board : Stmt := top 10
abbrev n_check_board : List Str := ["heads", "ahead", "x", "y"]
abbrev p_check_board : List Str := ["heads"]
theorem sc_check_board : FnScope n_check_board p_check_board (defScope s_check_board) := ⟨rfl, rfl, rfl, by decide +kernel, rfl, by decide +kernel, by decide +kernel⟩
def spCheckBoard (K : PySem.W.Frag) : Sp := fun vs H Q _ => ∃ (ph : Addr) (ps : List (Nat × Nat)) (rs : List Addr), vs = [.ref ph] ∧ SqL K H ph (rs.map V.ref) ∧ BL K H ps rs ∧ Row.IsBoard ps ∧ ∀ H', Same H H' → Q .non H'
section
variable {P : Program} {w : World} {K : PySem.W.Frag} {mg : Str → Option Value} {base : Heap}
structure CnCb (P : Program) (w : World) (K : PySem.W.Frag) (mg : Str → Option Value) (base : Heap) : Prop where
  check_board_place : Callee P w K mg base "check_board_place" 1 p_check_board_place spCheckBP
theorem ok_checkBoard (D : HasDef K mg "check_board" s_check_board) (C : CnCb P w K mg base) : Callee P w K mg base "check_board" 2 p_check_board (spCheckBoard K) := by
  refine D.ok sc_check_board (fun _ _ _ _ _ _ us hl => match us, hl with | [_], _ => rfl) (fun vs H Q E h => ?_) (fun f cdv A outer s H vs Q E hr h => ?_)
  · obtain ⟨ph, ps, rs, rfl, _⟩ := h
    rfl
  obtain ⟨ph, ps, rs, rfl, hH, hB, hb, q⟩ := h
  refine ⟨_, (pss_cons (ps_set (i := 1) sc_check_board.nd rfl (Or.inl rfl) (pe_tup (pa_cons (pe_un un_neg pe_int) (pa_cons (pe_un un_neg pe_int) pa_nil))))
    (pss_one (ps_for PassesOwn.never rfl (pi_list (pv 0)) (pg_tup rfl (pgs_cons (pg_name (i := 2) sc_check_board.nd rfl (Or.inl rfl)) (pgs_cons (pg_name (i := 3) sc_check_board.nd rfl (Or.inl rfl)) pgs_nil))) (pss_cons (ps_expr (pe_callC C.check_board_place hr (by omega) rfl (pa_cons (pv 2) (pa_cons (pv 3) pa_nil))))
    (pss_cons (ps_if (pt_cmpR (op_leT (Nat.lt_of_succ_lt (hu_of hr))) (pe_tup (pa_cons (pv 2) (pa_cons (pv 3) pa_nil))) (pv 1) (nomark _)) (pss_one ps_never) pss_nil)
    (pss_one (ps_set (i := 1) sc_check_board.nd rfl (Or.inl rfl) (pe_tup (pa_cons (pv 2) (pa_cons (pv 3) pa_nil)))))))))), ?_⟩
  rw [show start n_check_board [V.ref ph] = [some (V.ref ph), none, none, none] from rfl]
  have two : ∀ a b : V, ([a, b] : List V).length ≤ sizeLine := fun a b => by show 2 ≤ sizeLine; decide
  refine seq_of (asgO_of (tup_of (ev_cons (ev_u ev_c) (ev_cons (ev_u ev_c) ev_nil)) (two _ _) fun t0 ht0 => ?_))
  dsimp only
  refine ⟨_, rfl, ph, rfl, ⟨_, (same_new ht0 _).seq hH⟩, ?_⟩
  refine for_list (xs := rs.map V.ref) (fun i σ H' => Same H H' ∧ ∃ (t : Addr) (a b : Int) (u v : Option V), SqT K H' t [.int a, .int b] ∧ (∀ p : Nat × Nat, ps[i]? = some p → HT.lexLe [(p.1 : Int), (p.2 : Int)] [a, b] = false) ∧ σ = [some (V.ref ph), some (V.ref t), u, v])
    ⟨same_new ht0 _, t0, -1, -1, none, none, .inl (.inl upd_same), fun p _ => ?_, rfl⟩ ?_ ?_ ?_
  · simp only [HT.lexLe]
    rw [if_neg (by omega), decide_eq_false (by omega)]
  · rintro i σ H' _ ⟨sm, _⟩
    exact sm.seq hH
  · rintro i x σ H' hx ⟨sm, t, a, b, u, v, hs, hnx, rfl⟩
    obtain ⟨p, r, hp, hr', rfl, hF⟩ := at_refs2 (hB.same sm) hx
    have lp := hb.lt p (List.mem_of_getElem? hp)
    refine ⟨r, _, rfl, hF, rfl, _, _, rfl, _, _, rfl, rfl, ?_⟩
    dsimp only [gName]
    refine seq_of ⟨_, rfl, _, rfl, p.1, p.2, rfl, lp.1, lp.2, ?_⟩
    dsimp only
    refine seq_of (ifO_of (opO_of (tup_of (ev_cons (ev_var rfl) (ev_cons (ev_var rfl) ev_nil)) (two _ _) fun t1 ht1 => ⟨_, rfl, t1, t, [(p.1 : Int), (p.2 : Int)], [a, b], rfl, rfl, .inl (.inl upd_same), (same_new ht1 _).tup hs, _, rfl, ?_⟩)))
    rw [hnx p hp, if_neg (by decide)]
    refine next_of (asgO_of (tup_of (ev_cons (ev_var rfl) (ev_cons (ev_var rfl) ev_nil)) (two _ _) fun t2 ht2 => ?_))
    refine ⟨(sm.new ht1).new ht2, t2, _, _, some (V.int (p.1 : Int)), some (V.int (p.2 : Int)), .inl (.inl upd_same), fun p' hp' => lexLe_plt ?_, rfl⟩
    obtain ⟨h1, e1⟩ := List.getElem?_eq_some_iff.mp hp
    obtain ⟨h2, e2⟩ := List.getElem?_eq_some_iff.mp hp'
    have := List.pairwise_iff_getElem.mp hb.sorted i (i + 1) h1 h2 (by omega)
    rw [e1, e2] at this
    exact this
  · rintro σ H' ⟨sm, _⟩
    exact q _ sm
end
abbrev s_board_allows : Stmt := top 14
abbrev n_board_allows : List Str := ["rule_x", "rule_y", "heads", "xs", "ys"]
abbrev p_board_allows : List Str := ["rule_x", "rule_y", "heads", "xs", "ys"]
theorem sc_board_allows : FnScope n_board_allows p_board_allows (defScope s_board_allows) := ⟨rfl, rfl, rfl, by decide +kernel, rfl, by decide +kernel, by decide +kernel⟩
def lastI (ts : List Int) : Int := ts.getD (ts.length - 1) 0
def bletB (rx ry : Row.Rule) (ps : List (Nat × Nat)) (ts us : List Int) : Bool := fitsB 15 rx ts && (fitsB 15 ry us && decide (((lastI ts).toNat, (lastI us).toNat) ∈ ps))
theorem fits_last {r : Row.Rule} {ts : List Int} (h : fitsB 15 r ts = true) : ts ≠ [] ∧ (∀ a ∈ ts, 0 ≤ a ∧ a ≤ 15) ∧ 0 ≤ lastI ts ∧ lastI ts ≤ 15 := by
  unfold fitsB at h
  by_cases c0 : ts = [] ∨ Rises 15 (-1) ts = false
  · rw [if_pos c0] at h
    cases h
  have hne : ts ≠ [] := fun z => c0 (.inl z)
  have ri : Rises 15 (-1) ts = true := by
    cases e : Rises 15 (-1) ts with
    | true => rfl
    | false => exact absurd (.inr e) c0
  have hp : 0 < ts.length := List.length_pos_iff.mpr hne
  have at' := rises_at ri
  have h0 : 0 ≤ ts.getD 0 0 := by
    have := at' 0 _ (getD_at hp)
    rw [if_pos rfl] at this
    omega
  have s1 : ∀ k, 1 ≤ k → k < ts.length → ts.getD (k - 1) 0 < ts.getD k 0 := fun k k1 k2 => by
    have := at' k _ (getD_at k2)
    rw [if_neg (by omega)] at this
    omega
  have all : ∀ k, k < ts.length → 0 ≤ ts.getD k 0 ∧ ts.getD k 0 ≤ 15 := fun k hk => by
    have a := up_of s1 0 k (by omega)
    rw [Nat.zero_add] at a
    have b := at' k _ (getD_at hk)
    omega
  refine ⟨hne, fun a ha => ?_, (all _ (by omega)).1, (all _ (by omega)).2⟩
  obtain ⟨i, hi⟩ := List.getElem?_of_mem ha
  have il : i < ts.length := (List.getElem?_eq_some_iff.mp hi).1
  rw [getD_at il] at hi
  cases hi
  exact all i il
def spBAllows (K : PySem.W.Frag) : Sp := fun vs H Q _ => ∃ (px py ph pxs pys : Addr) (rx ry : Row.Rule) (ps : List (Nat × Nat)) (rs : List Addr) (ts us : List Int), vs = [.ref px, .ref py, .ref ph, .ref pxs, .ref pys] ∧ SqT K H px (ruleV rx) ∧ SqT K H py (ruleV ry) ∧ Row.Good rx ∧ Row.Good ry ∧ SqL K H ph (rs.map V.ref) ∧ BL K H ps rs ∧ Row.IsBoard ps ∧ SqL K H pxs (ts.map V.int) ∧ SqL K H pys (us.map V.int) ∧ ∀ H', Same H H' → Q (.bl (bletB rx ry ps ts us)) H'
structure CnBa (P : Program) (w : World) (K : PySem.W.Frag) (mg : Str → Option Value) (base : Heap) : Prop where
  check_rule : Callee P w K mg base "check_rule" 1 p_check_rule (spCheckRule K)
  check_board : Callee P w K mg base "check_board" 2 p_check_board (spCheckBoard K)
  fits : Callee P w K mg base "fits" 2 p_fits (spFits K)
structure TxBa (mg : Str → Option Value) : Prop where
  GREATEST_BOARD_PLACE : GInt mg "GREATEST_BOARD_PLACE" 15
section
variable {P : Program} {w : World} {K : PySem.W.Frag} {mg : Str → Option Value} {base : Heap}
set_option pp.deepTerms true in
theorem ok_ballows (D : HasDef K mg "board_allows" s_board_allows) (T : TxBa mg) (C : CnBa P w K mg base) : Callee P w K mg base "board_allows" 19 p_board_allows (spBAllows K) := by
  refine D.ok sc_board_allows (fun _ _ _ _ _ _ us hl => match us, hl with | [_, _, _, _, _], _ => rfl) (fun vs H Q E h => ?_) (fun f cdv A outer s H vs Q E hr h => ?_)
  · obtain ⟨px, py, ph, pxs, pys, rx, ry, ps, rs, ts, us, rfl, _⟩ := h
    rfl
  obtain ⟨px, py, ph, pxs, pys, rx, ry, ps, rs, ts, us, rfl, hX, hY, gx, gy, hH, hB, hb, hT, hU, q⟩ := h
  refine ⟨_, (pss_cons (ps_expr (pe_callC C.check_rule hr (by omega) rfl (pa_cons (pv 0) pa_nil)))
    (pss_cons (ps_expr (pe_callC C.check_rule hr (by omega) rfl (pa_cons (pv 1) pa_nil)))
    (pss_cons (ps_expr (pe_callC C.check_board hr (by omega) rfl (pa_cons (pv 2) pa_nil)))
    (pss_cons (ps_if (PW.pt (pw_or (pt_not (pt_val (pe_callC C.fits hr (by omega) rfl (pa_cons (pv 0) (pa_cons (pv 3) (pa_cons (pe_globI T.GREATEST_BOARD_PLACE) pa_nil)))))) (pw_or1 (pt_not (pt_val (pe_callC C.fits hr (by omega) rfl (pa_cons (pv 1) (pa_cons (pv 4) (pa_cons (pe_globI T.GREATEST_BOARD_PLACE) pa_nil))))))))) (pss_one (ps_ret pe_bl)) pss_nil)
    (pss_one (ps_ret (pe_cmpR (op_inD (n := 1) hr (by decide)) (pe_tup (pa_cons (pe_ix ix_list (pv 3) (pe_un un_neg pe_int) (fun _ _ => rfl)) (pa_cons (pe_ix ix_list (pv 4) (pe_un un_neg pe_int) (fun _ _ => rfl)) pa_nil))) (pv 2) rfl))))))), ?_⟩
  rw [show start n_board_allows [V.ref px, V.ref py, V.ref ph, V.ref pxs, V.ref pys] = [some (V.ref px), some (V.ref py), some (V.ref ph), some (V.ref pxs), some (V.ref pys)] from rfl]
  have two : ∀ a b : V, ([a, b] : List V).length ≤ sizeLine := fun a b => by show 2 ≤ sizeLine; decide
  have x2 : rx.1 ≤ 2 := by rcases gx with ⟨h, _⟩ | ⟨h, _⟩ <;> omega
  have y2 : ry.1 ≤ 2 := by rcases gy with ⟨h, _⟩ | ⟨h, _⟩ <;> omega
  refine seq_of ⟨_, rfl, px, rx, rfl, hX, gx, ?_⟩
  dsimp only
  refine seq_of ⟨_, rfl, py, ry, rfl, hY, gy, ?_⟩
  dsimp only
  refine seq_of ⟨_, rfl, ph, ps, rs, rfl, hH, hB, hb, fun H1 s1 => ?_⟩
  dsimp only
  refine seq_of (ifG_of (evg_or (evg_not (evg_tB (evg_call (v := .bl (fitsB 15 rx ts)) (evg_a (ev_cons (ev_var rfl) (ev_cons (ev_var rfl) (ev_cons ev_c ev_nil)))) fun H2 s2 Q q => ⟨px, pxs, rx, ts, 15, rfl, (s1.trans s2).tup hX, x2, (s1.trans s2).seq hT, q⟩))) fun _ H2 s2 => evg_not (evg_tB (evg_call (v := .bl (fitsB 15 ry us)) (evg_a (ev_cons (ev_var rfl) (ev_cons (ev_var rfl) (ev_cons ev_c ev_nil)))) fun H3 s3 Q q => ⟨py, pys, ry, us, 15, rfl, ((s1.trans s2).trans s3).tup hY, y2, ((s1.trans s2).trans s3).seq hU, q⟩))) (fun c H2 s2 => ?_) (fun c H2 s2 => next_of ?_))
  · refine ret_of ev_c ?_
    have e : bletB rx ry ps ts us = false := by
      unfold bletB
      rcases Bool.or_eq_true_iff.mp c with c | c
      · rw [Bool.not_eq_true'] at c
        rw [c]
        rfl
      · rw [Bool.not_eq_true'] at c
        rw [c, Bool.false_and, Bool.and_false]
    rw [e] at q
    exact q _ (s1.trans s2)
  · dsimp only
    have c := Bool.or_eq_false_iff.mp c
    have fx : fitsB 15 rx ts = true := by simpa using c.1
    have fy : fitsB 15 ry us = true := by simpa using c.2
    obtain ⟨nx, _, a1, a2⟩ := fits_last fx
    obtain ⟨ny, _, b1, b2⟩ := fits_last fy
    have s12 := s1.trans s2
    have ex : lastI ts = (((lastI ts).toNat : Nat) : Int) := by omega
    have ey : lastI us = (((lastI us).toNat : Nat) : Int) := by omega
    refine retO_of (opO_of (tup_of (ev_cons (ev_atEnd (ev_var rfl) (ev_u ev_c) (s12.seq hT) nx) (ev_cons (ev_atEnd (ev_var rfl) (ev_u ev_c) (s12.seq hU) ny) ev_nil)) (two _ _) fun z hz => ⟨_, rfl, in_board (p := ((lastI ts).toNat, (lastI us).toNat)) (.inl (.inl (by rw [upd_same]; show _ = some (HO.tup [V.int (((lastI ts).toNat : Nat) : Int), V.int (((lastI us).toNat : Nat) : Int)]); rw [← ex, ← ey]; rfl))) ((s12.trans (same_new hz _)).seq hH) (hB.same (s12.trans (same_new hz _))) ?_⟩))
    have e : bletB rx ry ps ts us = (decide (((lastI ts).toNat, (lastI us).toNat) ∈ ps) != false) := by
      unfold bletB
      rw [fx, fy]
      simp
    rw [← e]
    exact q _ (s12.trans (same_new hz _))
end
abbrev s_board_after : Stmt := top 15
abbrev n_board_after : List Str := ["rule_x", "rule_y", "heads", "xs", "ys", "turned", "x"]
abbrev p_board_after : List Str := ["rule_x", "rule_y", "heads", "xs", "ys"]
theorem sc_board_after : FnScope n_board_after p_board_after (defScope s_board_after) := ⟨rfl, rfl, rfl, by decide +kernel, rfl, by decide +kernel, by decide +kernel⟩
theorem hu16 {A : Around} {k : Nat} (hr : Room k A) : A.units + 16 < cLine := by have := hr.un; omega
def pads (ps : List (Nat × Nat)) (rs : List Addr) : List Pad := ps.zip rs
theorem pads_of {H : Hp} : ∀ {ps : List (Nat × Nat)} {rs : List Addr}, PL H ps rs → (pads ps rs).map (·.1) = ps ∧ ((pads ps rs).map fun x => V.ref x.2) = rs.map V.ref ∧ Pds H (pads ps rs)
  | _, _, .nil => ⟨rfl, rfl, fun x hx => by cases hx⟩
  | _, _, .cons q t => by
    obtain ⟨h1, h2, h3⟩ := pads_of t
    rename_i p r ps rs
    refine ⟨by show p :: (pads ps rs).map (·.1) = _; rw [h1], by show V.ref r :: (pads ps rs).map (fun x => V.ref x.2) = _; rw [h2]; rfl, fun x hx => ?_⟩
    rcases List.mem_cons.mp hx with rfl | hx
    · exact q
    · exact h3 x hx
theorem pds_pl {H : Hp} : ∀ {zs : List Pad}, Pds H zs → PL H (zs.map (·.1)) (zs.map (·.2))
  | [], _ => .nil
  | z :: zs, h => .cons (h z List.mem_cons_self) (pds_pl fun x hx => h x (List.mem_cons_of_mem _ hx))
theorem pds_same {H H' : Hp} {zs : List Pad} (h : Pds H zs) (s : Same H H') : Pds H' zs := fun x hx => s _ _ (h x hx)
theorem rises_sorted {g : Int} {t : List Nat} (h : Rises g (-1) (ni t) = true) : Row.Sorted t := by
  have at' := rises_at h
  have s1 : ∀ k, 1 ≤ k → k < t.length → t.getD (k - 1) 0 < t.getD k 0 := fun k k1 k2 => by
    have k2' : k < (ni t).length := by unfold ni; rw [List.length_map]; exact k2
    have := at' k _ (getD_at k2')
    rw [if_neg (by omega)] at this
    have e : ∀ m, m < t.length → (ni t).getD m 0 = ((t.getD m 0 : Nat) : Int) := fun m hm => by
      unfold ni
      rw [List.getD_eq_getElem?_getD, List.getElem?_map, List.getElem?_eq_getElem hm, List.getD_eq_getElem?_getD, List.getElem?_eq_getElem hm]
      rfl
    rw [e _ k2, e _ (by omega)] at this
    omega
  have up : ∀ m j, j + m < t.length → 1 ≤ m → t.getD j 0 < t.getD (j + m) 0 := fun m => by
    induction m with
    | zero => intro j _ h; omega
    | succ m ih =>
      intro j hj _
      have a := s1 (j + (m + 1)) (by omega) hj
      rw [show j + (m + 1) - 1 = j + m by omega] at a
      rcases Nat.eq_zero_or_pos m with z | z
      · subst z
        exact a
      · exact Nat.lt_trans (ih j (by omega) z) a
  unfold Row.Sorted
  rw [List.pairwise_iff_getElem]
  intro i j hi hj hij
  have := up (j - i) i (by omega) (by omega)
  rw [show i + (j - i) = j by omega, List.getD_eq_getElem?_getD, List.getD_eq_getElem?_getD, List.getElem?_eq_getElem hi, List.getElem?_eq_getElem hj] at this
  exact this
theorem fits_nat {r : Row.Rule} {t : List Nat} (h : fitsB 15 r (ni t) = true) : Row.Sorted t ∧ ∀ a ∈ t, a < 16 := by
  have h2 := fits_last h
  unfold fitsB at h
  by_cases c0 : ni t = [] ∨ Rises 15 (-1) (ni t) = false
  · rw [if_pos c0] at h
    cases h
  have ri : Rises 15 (-1) (ni t) = true := by
    cases e : Rises 15 (-1) (ni t) with
    | true => rfl
    | false => exact absurd (.inr e) c0
  refine ⟨rises_sorted ri, fun a ha => ?_⟩
  have := h2.2.1 (a : Int) (by unfold ni; exact List.mem_map.mpr ⟨a, ha, rfl⟩)
  omega
theorem behind_pads {ps : List (Nat × Nat)} {t u : List Nat} (hb : Row.IsBoard ps) (ht : ∀ a ∈ t, a < 16) (hu : ∀ a ∈ u, a < 16) {xs ys c1 c2 zs ws : List Pad} (e1 : xs.map (·.1) = ps) (e2 : ys.map (·.1) = Row.cross t u) (m1 : ∀ x, x ∈ c1 ↔ x ∈ xs) (m2 : ∀ x, x ∈ c2 ↔ x ∈ ys) (mz : ∀ x, x ∈ zs ↔ (x ∈ c1 ∧ x.1 ∉ c2.map (·.1)) ∨ (x ∈ c2 ∧ x.1 ∉ c1.map (·.1))) (mw : ∀ x, x ∈ ws ↔ x ∈ zs) (pw : (ws.map (·.1)).Pairwise Row.PLt) : ws.map (·.1) = Row.behind2 16 ps (t, u) := by
  have mm : ∀ {c l : List Pad} {q : Nat × Nat}, (∀ x, x ∈ c ↔ x ∈ l) → (q ∈ c.map (·.1) ↔ q ∈ l.map (·.1)) := fun h => by
    rw [List.mem_map, List.mem_map]
    exact ⟨fun ⟨x, a, b⟩ => ⟨x, (h x).mp a, b⟩, fun ⟨x, a, b⟩ => ⟨x, (h x).mpr a, b⟩⟩
  refine Row.plt_ext pw (Row.behind2_board (Nat.le_refl _) ps (t, u)).sorted fun q => ?_
  have b : q ∈ Row.behind2 16 ps (t, u) ↔ (q ∈ ps ∧ q ∉ Row.cross t u) ∨ (q ∈ Row.cross t u ∧ q ∉ ps) := by
    unfold Row.behind2
    rw [List.mem_filter, Row.mem_grid]
    have cr : (decide (q.1 ∈ t) && decide (q.2 ∈ u)) = decide (q ∈ Row.cross t u) := by
      rw [Bool.eq_iff_iff, Bool.and_eq_true, decide_eq_true_iff, decide_eq_true_iff, decide_eq_true_iff, Row.mem_cross]
    show _ ∧ (decide (q ∈ ps) != (decide (q.1 ∈ t) && decide (q.2 ∈ u))) = true ↔ _
    rw [cr]
    constructor
    · rintro ⟨_, z⟩
      by_cases a1 : q ∈ ps <;> by_cases a2 : q ∈ Row.cross t u <;> simp [a1, a2] at z ⊢
    · rintro (⟨a1, a2⟩ | ⟨a1, a2⟩)
      · exact ⟨hb.lt q a1, by simp [a1, a2]⟩
      · have := Row.mem_cross.mp a1
        exact ⟨⟨ht _ this.1, hu _ this.2⟩, by simp [a1, a2]⟩
  rw [b, ← e1, ← e2, ← mm m1, ← mm m2]
  rw [List.mem_map]
  constructor
  · rintro ⟨x, hx, rfl⟩
    rcases (mz x).mp ((mw x).mp hx) with ⟨h1, h2⟩ | ⟨h1, h2⟩
    · exact .inl ⟨List.mem_map.mpr ⟨x, h1, rfl⟩, h2⟩
    · exact .inr ⟨List.mem_map.mpr ⟨x, h1, rfl⟩, h2⟩
  · rintro (⟨h1, h2⟩ | ⟨h1, h2⟩)
    · obtain ⟨x, hx, rfl⟩ := List.mem_map.mp h1
      exact ⟨x, (mw x).mpr ((mz x).mpr (.inl ⟨hx, h2⟩)), rfl⟩
    · obtain ⟨x, hx, rfl⟩ := List.mem_map.mp h1
      exact ⟨x, (mw x).mpr ((mz x).mpr (.inr ⟨hx, h2⟩)), rfl⟩
theorem _root_.Row.cross_len (as bs : List Nat) : (Row.cross as bs).length ≤ as.length * bs.length := by
  unfold Row.cross
  induction as with
  | nil => simp
  | cons a as ih =>
    rw [List.flatMap_cons, List.length_append, List.length_map, List.length_cons, Nat.succ_mul]
    omega
def spBAfterC (K : PySem.W.Frag) : Sp := fun vs H Q _ => ∃ (px py ph pxs pys : Addr) (rx ry : Row.Rule) (ps : List (Nat × Nat)) (rs : List Addr) (t u : List Nat), vs = [.ref px, .ref py, .ref ph, .ref pxs, .ref pys] ∧ SqT K H px (ruleV rx) ∧ SqT K H py (ruleV ry) ∧ Row.Good rx ∧ Row.Good ry ∧ SqL K H ph (rs.map V.ref) ∧ PL H ps rs ∧ Row.IsBoard ps ∧ H pxs = some (.lst (nl t)) ∧ H pys = some (.lst (nl u)) ∧ bletB rx ry ps (ni t) (ni u) = true ∧ ps.length + t.length * u.length < 63 ∧
  ∀ H' p ss, Same H H' → H p = none → H' p = some (.lst (ss.map V.ref)) → PL H' (Row.behind2 16 ps (t, u)) ss → Q (.ref p) H'
def spBAfterX (K : PySem.W.Frag) (cT : Addr) : Sp := fun vs H _ E => ∃ (px py ph pxs pys : Addr) (rx ry : Row.Rule) (ps : List (Nat × Nat)) (rs : List Addr) (ts us : List Int), vs = [.ref px, .ref py, .ref ph, .ref pxs, .ref pys] ∧ SqT K H px (ruleV rx) ∧ SqT K H py (ruleV ry) ∧ Row.Good rx ∧ Row.Good ry ∧ SqL K H ph (rs.map V.ref) ∧ BL K H ps rs ∧ Row.IsBoard ps ∧ SqL K H pxs (ts.map V.int) ∧ SqL K H pys (us.map V.int) ∧ bletB rx ry ps ts us = false ∧ ∀ H', Same H H' → E (.ref cT) none H'
structure CnBf (P : Program) (w : World) (K : PySem.W.Frag) (mg : Str → Option Value) (base : Heap) : Prop where
  board_allows : Callee P w K mg base "board_allows" 19 p_board_allows (spBAllows K)
structure TxBf (mg : Str → Option Value) : Prop where
  n_sorted : mg "sorted" = none
  n_set : mg "set" = none
structure TxBx (K : PySem.W.Frag) (mg : Str → Option Value) (cT : Addr) : Prop extends TxBf mg where
  r_NoTurn : ErrC K mg "NoTurn" cT
section
variable {P : Program} {w : World} {K : PySem.W.Frag} {mg : Str → Option Value} {base : Heap} {cT : Addr}
set_option pp.deepTerms true in
theorem ok_bafterX (D : HasDef K mg "board_after" s_board_after) (T : TxBx K mg cT) (C : CnBf P w K mg base) : CalleeX P w K mg base "board_after" 20 p_board_after (spBAfterX K cT) := by
  refine D.okX sc_board_after (fun _ _ _ _ _ _ us hl => match us, hl with | [_, _, _, _, _], _ => rfl) (fun vs H Q E h => ?_) (fun f cdv A outer s H vs Q E hr h => ?_)
  · obtain ⟨px, py, ph, pxs, pys, rx, ry, ps, rs, ts, us, rfl, _⟩ := h
    rfl
  obtain ⟨px, py, ph, pxs, pys, rx, ry, ps, rs, ts, us, rfl, hX, hY, gx, gy, hH, hB, hb, hT, hU, hno, q⟩ := h
  refine ⟨_, (pss_cons (ps_if (pt_not (pt_val (pe_callC C.board_allows hr (by omega) rfl (pa_cons (pv 0) (pa_cons (pv 1) (pa_cons (pv 2) (pa_cons (pv 3) (pa_cons (pv 4) pa_nil)))))))) (pss_one (ps_raise raise1 rfl T.r_NoTurn rfl (pa_cons pe_str pa_nil))) pss_nil)
    (pss_cons (ps_set (i := 5) sc_board_after.nd rfl (Or.inl rfl) (pe_lst pa_nil))
    (pss_cons (ps_for PassesOwn.leaving rfl (pi_list (pv 3)) (pg_name (i := 6) sc_board_after.nd rfl (Or.inr rfl)) (pss_one (ps_expr (pe_bm PySem.F.plainAttrs_list PySem.F.slot_list_extend PySem.F.type_list_extend mt_extend (pv 5) (pa_cons (pe_comp (Block.of (out := defScope s_board_after) (N := n_board_after) (x := "y") (frees := ["x"]) (ix := [6]) (by decide +kernel)) rfl (pi_list (pv 4)) (fun _ _ _ _ => pts_nil) (fun _ _ _ _ => (pe_tup (pa_cons (pv 1) (pa_cons (pv 0) pa_nil))))) pa_nil)))))
    (pss_one (ps_ret (pe_callB (call_setSortP rfl) rfl T.n_sorted bt_sorted (pa_cons (pe_op (op_setXorP (hu_of hr)) (pe_callTy (call_setNewP rfl (hu16 hr)) rfl T.n_set PyProof.Rows.boot_set (pa_cons (pv 2) pa_nil)) (pe_callTy (call_setNewP rfl (hu16 hr)) rfl T.n_set PyProof.Rows.boot_set (pa_cons (pv 5) pa_nil))) pa_nil))))))), ?_⟩
  rw [show start n_board_after [V.ref px, V.ref py, V.ref ph, V.ref pxs, V.ref pys] = [some (V.ref px), some (V.ref py), some (V.ref ph), some (V.ref pxs), some (V.ref pys), none, none] from rfl]
  refine seq_of ⟨_, rfl, _, rfl, _, rfl, _, rfl, _, rfl, px, py, ph, pxs, pys, rx, ry, ps, rs, ts, us, rfl, hX, hY, gx, gy, hH, hB, hb, hT, hU, fun H1 s1 => ⟨_, rfl, ?_⟩⟩
  rw [hno]
  exact ⟨by decide, q _ s1⟩
set_option pp.deepTerms true in
theorem ok_bafterC (D : HasDef K mg "board_after" s_board_after) (T : TxBf mg) (C : CnBf P w K mg base) : Callee P w K mg base "board_after" 20 p_board_after (spBAfterC K) := by
  refine D.ok sc_board_after (fun _ _ _ _ _ _ us hl => match us, hl with | [_, _, _, _, _], _ => rfl) (fun vs H Q E h => ?_) (fun f cdv A outer s H vs Q E hr h => ?_)
  · obtain ⟨px, py, ph, pxs, pys, rx, ry, ps, rs, t, u, rfl, _⟩ := h
    rfl
  obtain ⟨px, py, ph, pxs, pys, rx, ry, ps, rs, t, u, rfl, hX, hY, gx, gy, hH, hP, hb, hT, hU, hlet, h63, q⟩ := h
  refine ⟨_, (pss_cons (ps_if (pt_not (pt_val (pe_callC C.board_allows hr (by omega) rfl (pa_cons (pv 0) (pa_cons (pv 1) (pa_cons (pv 2) (pa_cons (pv 3) (pa_cons (pv 4) pa_nil)))))))) (pss_one ps_never) pss_nil)
    (pss_cons (ps_set (i := 5) sc_board_after.nd rfl (Or.inl rfl) (pe_lst pa_nil))
    (pss_cons (ps_for PassesOwn.never rfl (pi_list (pv 3)) (pg_name (i := 6) sc_board_after.nd rfl (Or.inr rfl)) (pss_one (ps_expr (pe_bm PySem.F.plainAttrs_list PySem.F.slot_list_extend PySem.F.type_list_extend mt_extend (pv 5) (pa_cons (pe_comp (Block.of (out := defScope s_board_after) (N := n_board_after) (x := "y") (frees := ["x"]) (ix := [6]) (by decide +kernel)) rfl (pi_list (pv 4)) (fun _ _ _ _ => pts_nil) (fun _ _ _ _ => (pe_tup (pa_cons (pv 1) (pa_cons (pv 0) pa_nil))))) pa_nil)))))
    (pss_one (ps_ret (pe_callB (call_setSortP rfl) rfl T.n_sorted bt_sorted (pa_cons (pe_op (op_setXorP (hu_of hr)) (pe_callTy (call_setNewP rfl (hu16 hr)) rfl T.n_set PyProof.Rows.boot_set (pa_cons (pv 2) pa_nil)) (pe_callTy (call_setNewP rfl (hu16 hr)) rfl T.n_set PyProof.Rows.boot_set (pa_cons (pv 5) pa_nil))) pa_nil))))))), ?_⟩
  rw [show start n_board_after [V.ref px, V.ref py, V.ref ph, V.ref pxs, V.ref pys] = [some (V.ref px), some (V.ref py), some (V.ref ph), some (V.ref pxs), some (V.ref pys), none, none] from rfl]
  refine seq_of ⟨_, rfl, _, rfl, _, rfl, _, rfl, _, rfl, px, py, ph, pxs, pys, rx, ry, ps, rs, ni t, ni u, rfl, hX, hY, gx, gy, hH, hP.bl, hb, by rw [← nl_ni]; exact .of hT, by rw [← nl_ni]; exact .of hU, fun H1 s1 => ⟨_, rfl, ?_⟩⟩
  rw [hlet]
  dsimp only
  rw [if_neg (by decide)]
  refine next_of ?_
  dsimp only
  obtain ⟨fx, fy, _⟩ : fitsB 15 rx (ni t) = true ∧ fitsB 15 ry (ni u) = true ∧ True := by
    unfold bletB at hlet
    rw [Bool.and_eq_true, Bool.and_eq_true] at hlet
    exact ⟨hlet.1, hlet.2.1, trivial⟩
  obtain ⟨st, lt⟩ := fits_nat fx
  obtain ⟨su, lu⟩ := fits_nat fy
  have two : ∀ a b : V, ([a, b] : List V).length ≤ sizeLine := fun a b => by show 2 ≤ sizeLine; decide
  refine seq_of ⟨by decide, fun p hp => ?_⟩
  dsimp only [gName]
  have np : H p = none := s1.free hp
  have s2 := s1.new (o := .lst []) hp
  refine seq_of ⟨_, rfl, pxs, rfl, ⟨_, .of (s2 _ _ hT)⟩, ?_⟩
  have lu16 : u.length ≤ 16 := Row.sorted_len su lu
  have lt16 : t.length ≤ 16 := Row.sorted_len st lt
  refine for_list (xs := nl t) (fun i σ H' => ∃ (cs : List Addr) (k : Option V), Same H H' ∧ H' p = some (.lst (cs.map V.ref)) ∧ PL H' (Row.cross (t.take i) u) cs ∧ σ = [some (V.ref px), some (V.ref py), some (V.ref ph), some (V.ref pxs), some (V.ref pys), some (V.ref p), k]) ⟨[], none, s2, upd_same, .nil, rfl⟩ ?_ ?_ ?_
  · rintro i σ H' _ ⟨cs, k, sm, _⟩
    exact .of (sm _ _ hT)
  · rintro i x σ H' hx ⟨cs, k, sm, hl, hc, rfl⟩
    obtain ⟨y, ey, rfl⟩ := nl_mem hx
    dsimp only [gName]
    have il : i < t.length := (List.getElem?_eq_some_iff.mp ey).1
    refine ⟨_, rfl, .inl ⟨rfl, _, .of hl⟩, ?_⟩
    refine arg1_of (comp_list_tups (K := K) (la := pys) (xs := u) (fun z => [.int (y : Int), .int (z : Int)]) (fun R rr => ?_) (sm _ _ hU) (small1000 (by omega)) (fun z H2 R s3 rr => ?_) fun acc ds H2 hacc s3 hacc2 hds => ?_)
    · exact ⟨_, rfl, pys, rfl, ⟨_, .of (sm _ _ hU)⟩, rr⟩
    · exact tup_of (ev_cons (ev_var rfl) (ev_cons (ev_var rfl) ev_nil)) (two _ _) rr
    · have lc : cs.length ≤ 256 := by
        rw [← hc.length]
        refine Nat.le_trans (Row.cross_len _ _) ?_
        exact Nat.mul_le_mul (by rw [List.length_take]; omega : (t.take i).length ≤ 16) lu16
      have ld : ds.length = u.length := (Paired.length hds).symm
      have pa : p ≠ acc := fun z => by rw [z, hacc] at hl; cases hl
      have hl2 := s3 _ _ hl
      refine ⟨p, acc, _, _, rfl, rfl, hl2, hacc2, by rw [List.length_map, List.length_map]; exact Nat.le_of_lt (small1000 (by omega)), ?_⟩
      refine ⟨cs ++ ds, _, ((sm.trans s3).upd np), by rw [upd_same, List.map_append], ?_, rfl⟩
      rw [List.take_add_one, ey]
      show PL _ (Row.cross (t.take i ++ [y]) u) _
      unfold Row.cross
      rw [List.flatMap_append, List.flatMap_singleton]
      refine paired_app ((hc.same s3).upd hl2) ?_
      refine paired_of (by rw [List.length_map]; exact ld.symm) fun k a b ha hb' => ?_
      obtain ⟨yy, h1, h2⟩ := paired_get hds hb'
      rw [List.getElem?_map, h1] at ha
      cases ha
      rw [upd_ne (ne_of h2 hl2 (by intro z; cases z))]
      exact h2
  · rintro σ H' ⟨cs, k, sm, hl, hc, rfl⟩
    rw [show (nl t).length = t.length from nl_length t, List.take_length] at hc
    dsimp only
    obtain ⟨a1, a2, a3⟩ := pads_of (hP.same sm)
    obtain ⟨b1, b2, b3⟩ := pads_of hc
    have lx : (pads ps rs).length = ps.length := by have := congrArg List.length a1; simpa using this
    have ly : (pads (Row.cross t u) cs).length ≤ t.length * u.length := by
      have : (pads (Row.cross t u) cs).length = (Row.cross t u).length := by
        rw [← List.length_map (f := fun x : Pad => x.1), b1]
      rw [this]
      exact Row.cross_len _ _
    refine retO_of ?_
    refine ev_var rfl _ ⟨ph, pads ps rs, rfl, by rw [a2]; exact sm.seq hH, a3, by rw [a1]; exact Row.plt_nodup hb.sorted, fun x hx => hb.lt x.1 (by rw [← a1]; exact List.mem_map.mpr ⟨x, hx, rfl⟩), by omega, fun a c1 ha m1 l1 => ?_⟩
    have s3 := same_new ha (spO w a c1)
    refine ev_var rfl _ ⟨p, pads (Row.cross t u) cs, rfl, by rw [b2]; exact s3.seq (.of hl), pds_same b3 s3, by rw [b1]; exact Row.plt_nodup (Row.cross_sorted st su), fun x hx => ?_, by omega, fun b c2 hb2 m2 l2 => ?_⟩
    · have := Row.mem_cross.mp (show x.1 ∈ Row.cross t u by rw [← b1]; exact List.mem_map.mpr ⟨x, hx, rfl⟩)
      exact ⟨lt _ this.1, lu _ this.2⟩
    have s4 := s3.new (o := spO w b c2) hb2
    refine ⟨a, b, c1, c2, rfl, rfl, same_new hb2 _ _ _ upd_same, upd_same, fun x hx => pds_same a3 s4 x ((m1 x).mp hx), fun x hx => pds_same b3 s4 x ((m2 x).mp hx), by omega, fun c zs hc' mz lz => ?_⟩
    have s5 := s4.new (o := spO w c zs) hc'
    have pz : Pds _ zs := fun x hx => by
      rcases (mz x).mp hx with ⟨h1, _⟩ | ⟨h1, _⟩
      · exact pds_same a3 s5 x ((m1 x).mp h1)
      · exact pds_same b3 s5 x ((m2 x).mp h1)
    refine ⟨c, zs, rfl, upd_same, pz, by omega, fun l ws hl' mw pw lw => ?_⟩
    have s6 := s5.new (o := .lst (ws.map fun x => V.ref x.2)) hl'
    have pws : Pds _ ws := fun x hx => same_new hl' (.lst (ws.map fun x => V.ref x.2)) _ _ (pz x ((mw x).mp hx))
    have eb := behind_pads hb lt lu a1 b1 m1 m2 mz mw pw
    refine q _ l (ws.map (·.2)) (sm.trans s6) ((sm.trans s5).free hl') (by rw [upd_same, List.map_map]; rfl) ?_
    rw [← eb]
    exact pds_pl pws
end
abbrev s_law_board : Stmt := top 19
abbrev n_law_board : List Str := ["cell", "first", "lines", "chosen", "k", "x", "y"]
abbrev p_law_board : List Str := ["cell", "first", "lines"]
theorem sc_law_board : FnScope n_law_board p_law_board (defScope s_law_board) := ⟨rfl, rfl, rfl, by decide +kernel, rfl, by decide +kernel, by decide +kernel⟩
structure Kys (kvs : List (List Key × V)) (ps : List (Nat × Nat)) : Prop where
  keys : kvs.map (·.1) = ps.map (fun p => pk p.1 p.2)
  lt : ∀ p ∈ ps, p.1 < 16 ∧ p.2 < 16
  nd : ps.Nodup
theorem put_keys {kvs : List (List Key × V)} {k : List Key} {v : V} : (putK kvs k v).map (·.1) = if (valV kvs k).isSome then kvs.map (·.1) else kvs.map (·.1) ++ [k] := by
  cases e : valV kvs k with
  | none =>
    rw [putK_new _ e]
    simp
  | some x =>
    unfold putK
    rw [valV_any, e]
    simp only [Option.isSome_some, if_true]
    rw [List.map_map]
    refine List.map_congr_left fun kv _ => ?_
    simp only [Function.comp_apply]
    split <;> rfl
theorem Kys.len {kvs : List (List Key × V)} {ps : List (Nat × Nat)} (h : Kys kvs ps) : kvs.length = ps.length := by have := congrArg List.length h.keys; simpa using this
theorem Kys.put {kvs : List (List Key × V)} {ps : List (Nat × Nat)} (h : Kys kvs ps) {x y : Nat} {v : V} (hx : x < 16) (hy : y < 16) : ∃ qs, Kys (putK kvs (pk x y) v) qs ∧ qs.length ≤ ps.length + 1 := by
  obtain ⟨hk, h16, hnd⟩ := h
  have inp : (valV kvs (pk x y)).isSome = decide ((x, y) ∈ ps) := by
    rw [Bool.eq_iff_iff, decide_eq_true_eq]
    constructor
    · intro h
      obtain ⟨w', e⟩ := Option.isSome_iff_exists.mp h
      have := valV_in e
      rw [hk] at this
      obtain ⟨p, hp, e2⟩ := List.mem_map.mp this
      obtain ⟨h1, h2⟩ := pk_inj e2
      have : p = (x, y) := Prod.ext h1 h2
      exact this ▸ hp
    · intro h
      cases e : valV kvs (pk x y) with
      | some w' => rfl
      | none =>
        refine absurd ?_ (valV_not e)
        rw [hk]
        exact List.mem_map.mpr ⟨(x, y), h, rfl⟩
  have keys := put_keys (kvs := kvs) (k := pk x y) (v := v)
  rw [inp] at keys
  by_cases c : (x, y) ∈ ps
  · rw [decide_eq_true c, if_pos rfl] at keys
    exact ⟨ps, ⟨keys.trans hk, h16, hnd⟩, by omega⟩
  · rw [decide_eq_false c, if_neg (by decide), hk] at keys
    refine ⟨ps ++ [(x, y)], ⟨by rw [keys, List.map_append]; rfl, fun q hq => ?_, ?_⟩, by simp⟩
    · rcases List.mem_append.mp hq with w | w
      · exact h16 q w
      · have : q = (x, y) := by simpa using w
        subst this
        exact ⟨hx, hy⟩
    · rw [List.nodup_append]
      refine ⟨hnd, by simp, fun b hb b' hb' e => ?_⟩
      have : b' = (x, y) := by simpa using hb'
      subst this
      subst e
      exact c hb
def spBoard11 : Sp := fun vs H Q _ => ∃ (c : Int) (first : Nat) (pl : Addr) (ls : List Nat), vs = [.int c, .int (first : Int), .ref pl] ∧ first ≤ 12 ∧ H pl = some (.lst (nl ls)) ∧ ls.length ≤ 2 ∧ (∀ l ∈ ls, l < 16) ∧ ∀ H' p ps rs, Same H H' → H p = none → H' p = some (.lst (rs.map V.ref)) → PL H' ps rs → Row.IsBoard ps → ps.length ≤ 48 → Q (.ref p) H'
structure TxB11 (mg : Str → Option Value) : Prop where
  n_range : mg "range" = none
  n_sorted : mg "sorted" = none
section
variable {P : Program} {w : World} {K : PySem.W.Frag} {mg : Str → Option Value} {base : Heap}
set_option pp.deepTerms true in
theorem ok_board (D : HasDef K mg "_law_board" s_law_board) (T : TxB11 mg) : Callee P w K mg base "_law_board" 1 p_law_board spBoard11 := by
  refine D.ok sc_law_board (fun _ _ _ _ _ _ us hl => match us, hl with | [_, _, _], _ => rfl) (fun vs H Q E h => ?_) (fun f cdv A outer s H vs Q E hr h => ?_)
  · obtain ⟨c, first, pl, ls, rfl, _⟩ := h
    rfl
  obtain ⟨c, first, pl, ls, rfl, f12, hL, l2, l16, q⟩ := h
  refine ⟨_, (pss_cons (ps_set (i := 3) sc_law_board.nd rfl (Or.inl rfl) pe_dnewT)
    (pss_cons (ps_for PassesOwn.never rfl (pi_range1 rfl T.n_range (pa_cons pe_int pa_nil)) (pg_name (i := 4) sc_law_board.nd rfl (Or.inl rfl)) (pss_cons (ps_if (pt_cmpR op_eq (pe_op op_mod (pv 0) pe_int) pe_int (nomark _)) (pss_one (ps_dput (hu_of hr) (pv 3) (pe_tup (pa_cons (pe_op op_add (pv 1) (pe_op op_fdiv (pv 4) pe_int)) (pa_cons (pe_op op_add (pv 1) (pe_op op_mod (pv 4) pe_int)) pa_nil))) pe_bl rfl)) pss_nil)
    (pss_one (ps_set (i := 0) sc_law_board.nd rfl (Or.inl rfl) (pe_op op_fdiv (pv 0) pe_int)))))
    (pss_cons (ps_for PassesOwn.never rfl (pi_list (pv 2)) (pg_name (i := 5) sc_law_board.nd rfl (Or.inl rfl)) (pss_one (ps_for PassesOwn.never rfl (pi_range1 rfl T.n_range (pa_cons pe_int pa_nil)) (pg_name (i := 6) sc_law_board.nd rfl (Or.inl rfl)) (pss_one (ps_dput (hu_of hr) (pv 3) (pe_tup (pa_cons (pv 5) (pa_cons (pv 6) pa_nil))) pe_bl rfl)))))
    (pss_one (ps_ret (pe_callB (call_sortedDG rfl) rfl T.n_sorted bt_sorted (pa_cons (pv 3) pa_nil))))))), ?_⟩
  rw [show start n_law_board [V.int c, V.int first, V.ref pl] = [some (V.int c), some (V.int first), some (V.ref pl), none, none, none, none] from rfl]
  have two : ∀ a b : V, ([a, b] : List V).length ≤ sizeLine := fun a b => by show 2 ≤ sizeLine; decide
  refine seq_of fun d nd => ?_
  dsimp only [gName]
  have s0 := same_new nd (.dT [])
  refine seq_of (rng1_of (ev_cons ev_c ev_nil) (by decide) (by decide) ?_)
  refine for_range (fun i σ H' => ∃ (kvs : List (List Key × V)) (ps : List (Nat × Nat)) (u : Option V), Same H H' ∧ H' d = some (.dT kvs) ∧ Kys kvs ps ∧ ps.length ≤ i ∧ σ = [some (V.int (c / 2 ^ i)), some (V.int (first : Int)), some (V.ref pl), some (V.ref d), u, none, none])
    ⟨[], [], none, s0, upd_same, ⟨rfl, by simp, List.nodup_nil⟩, by simp, by simp⟩ ?_ ?_
  · rintro i σ H' hi ⟨kvs, ps, u, sm, hd, hk, lps, rfl⟩
    have hi : i < 16 := hi
    dsimp only [gName]
    have lk := hk.len
    refine seq_of (ifS_of (ev_test (ev_eqI (ev_i (ev_var rfl) ev_c (by decide)) ev_c)) (fun _ => ?_) (fun _ => next_of ?_))
    · refine ⟨_, rfl, tup_of (ev_cons (ev_i0 (ev_var rfl) (ev_i (ev_var rfl) ev_c (by unfold CDiv; decide))) (ev_cons (ev_i0 (ev_var rfl) (ev_i (ev_var rfl) ev_c (by decide))) ev_nil)) (two _ _) fun z hz => ⟨d, _, rfl, DPut.t (k := pk (first + i / 4) (first + i % 4)) (by rw [upd_ne (ne_of_none hd hz)]; exact hd) (by rw [upd_same]; unfold pk; simp [kV]) (small1000 (by omega)), ?_⟩⟩
      obtain ⟨qs, kq, lq⟩ := hk.put (x := first + i / 4) (y := first + i % 4) (v := .bl true) (by omega) (by omega)
      dsimp only
      exact asg_of (ev_i (ev_var rfl) ev_c (by unfold CDiv; decide)) ⟨_, qs, _, (sm.new hz).upd nd, upd_same, kq, by omega, by rw [half]; rfl⟩
    · exact asg_of (ev_i (ev_var rfl) ev_c (by unfold CDiv; decide)) ⟨kvs, ps, _, sm, hd, hk, by omega, by rw [half]; rfl⟩
  · rintro σ H' ⟨kvs, ps, u, sm, hd, hk, lps, rfl⟩
    dsimp only
    refine seq_of ⟨_, rfl, pl, rfl, ⟨_, .of (sm _ _ hL)⟩, ?_⟩
    refine for_list (xs := nl ls) (fun j σ H2 => ∃ (kvs : List (List Key × V)) (ps : List (Nat × Nat)) (u v v2 : Option V), Same H H2 ∧ H2 d = some (.dT kvs) ∧ Kys kvs ps ∧ ps.length ≤ 16 + 16 * j ∧ σ = [some (V.int (c / 2 ^ 16)), some (V.int (first : Int)), some (V.ref pl), some (V.ref d), u, v, v2]) ⟨kvs, ps, u, none, none, sm, hd, hk, lps, rfl⟩ ?_ ?_ ?_
    · rintro j σ H2 _ ⟨_, _, _, _, _, sm2, _⟩
      exact .of (sm2 _ _ hL)
    · rintro j x σ H2 hx ⟨kvs, ps, u, v, v2, sm2, hd2, hk2, lps2, rfl⟩
      obtain ⟨x, ex, rfl⟩ := nl_mem hx
      have x16 := l16 x (List.mem_of_getElem? ex)
      have jl : j < ls.length := (List.getElem?_eq_some_iff.mp ex).1
      dsimp only [gName]
      refine rng1_of (ev_cons ev_c ev_nil) (by decide) (by decide) ?_
      refine for_range (fun i σ H3 => ∃ (kvs : List (List Key × V)) (ps : List (Nat × Nat)) (v2 : Option V), Same H H3 ∧ H3 d = some (.dT kvs) ∧ Kys kvs ps ∧ ps.length ≤ 16 + 16 * j + i ∧ σ = [some (V.int (c / 2 ^ 16)), some (V.int (first : Int)), some (V.ref pl), some (V.ref d), u, some (V.int (x : Int)), v2]) ⟨kvs, ps, v2, sm2, hd2, hk2, lps2, rfl⟩ ?_ ?_
      · rintro i σ H3 hi ⟨kvs, ps, v2, sm3, hd3, hk3, lps3, rfl⟩
        have hi : i < 16 := hi
        have lk := hk3.len
        dsimp only [gName]
        refine ⟨_, rfl, tup_of (ev_cons (ev_var rfl) (ev_cons (ev_var rfl) ev_nil)) (two _ _) fun z hz => ⟨d, _, rfl, DPut.t (k := pk x i) (by rw [upd_ne (ne_of_none hd3 hz)]; exact hd3) (by rw [upd_same]; unfold pk; simp [kV]) (small1000 (by omega)), ?_⟩⟩
        obtain ⟨qs, kq, lq⟩ := hk3.put (x := x) (y := i) (v := .bl true) x16 hi
        exact ⟨_, qs, _, (sm3.new hz).upd nd, upd_same, kq, by omega, rfl⟩
      · rintro σ H3 ⟨kvs, ps, v2, sm3, hd3, hk3, lps3, rfl⟩
        exact ⟨kvs, ps, _, _, _, sm3, hd3, hk3, by omega, rfl⟩
    · rintro σ H2 ⟨kvs, ps, u, v, v2, sm2, hd2, hk2, lps2, rfl⟩
      dsimp only
      rw [nl_length] at lps2
      refine retO_of (cb_of (ev_cons (ev_var rfl) ev_nil) ⟨d, kvs, ps, rfl, hd2, hk2.keys, fun q hq => (hk2.lt q hq).2, hk2.nd, by omega, fun l qs ss nl st hss => ?_⟩)
      have sl := same_new nl (.lst (ss.map V.ref))
      have lq : qs.length ≤ ps.length := List.Nodup.length_le_of_subset (Row.plt_nodup st.1) fun q hq => (st.2 q).mp hq
      exact q _ l qs ss (sm2.trans sl) (sm2.free nl) upd_same (hss.same sl) ⟨st.1, fun q hq => hk2.lt q ((st.2 q).mp hq)⟩ (by omega)
end
abbrev s_law_places : Stmt := top 20
abbrev n_law_places : List Str := ["one", "two", "three", "first", "low", "many", "chosen"]
abbrev p_law_places : List Str := ["one", "two", "three", "first"]
theorem sc_law_places : FnScope n_law_places p_law_places (defScope s_law_places) := ⟨rfl, rfl, rfl, by decide +kernel, rfl, by decide +kernel, by decide +kernel⟩
def spPlaces11 : Sp := fun vs H Q _ => ∃ (one two three : Int) (first : Nat), vs = [.int one, .int two, .int three, .int (first : Int)] ∧ ∀ H' p ts, Same H H' → H p = none → H' p = some (.lst (nl ts)) → ts ≠ [] → ts.length ≤ 3 → Q (.ref p) H'
section
variable {P : Program} {w : World} {K : PySem.W.Frag} {mg : Str → Option Value} {base : Heap}
structure TxPl (mg : Str → Option Value) : Prop where
  n_range : mg "range" = none
set_option pp.deepTerms true in
theorem ok_places (D : HasDef K mg "_law_places" s_law_places) (T : TxPl mg) : Callee P w K mg base "_law_places" 1 p_law_places spPlaces11 := by
  refine D.ok sc_law_places (fun _ _ _ _ _ _ us hl => match us, hl with | [_, _, _, _], _ => rfl) (fun vs H Q E h => ?_) (fun f cdv A outer s H vs Q E hr h => ?_)
  · obtain ⟨one, two, three, first, rfl, _⟩ := h
    rfl
  obtain ⟨one, two, three, first, rfl, q⟩ := h
  refine ⟨_, (pss_cons (ps_set (i := 4) sc_law_places.nd rfl (Or.inr rfl) (pe_op op_mod (pv 0) pe_int))
    (pss_cons (ps_set (i := 5) sc_law_places.nd rfl (Or.inl rfl) (pe_op op_add pe_int (pe_op op_mod (pv 1) pe_int)))
    (pss_cons (ps_if (pt_cmpR op_eq (pe_op op_mod (pe_op op_fdiv (pv 1) pe_int) pe_int) pe_int (nomark _)) (pss_one (ps_ret (pe_comp (Block.of (out := defScope s_law_places) (N := n_law_places) (x := "k") (frees := ["first", "low"]) (ix := [3, 4]) (by decide +kernel)) rfl (pi_range1 rfl T.n_range (pa_cons (pv 5) pa_nil)) (fun _ _ _ _ => pts_one (pt_cmpR op_lt (pe_op op_add (pv 2) (pv 0)) pe_int (nomark _))) (fun _ _ _ _ => (pe_op op_add (pe_op op_add (pv 1) (pv 2)) (pv 0)))))) pss_nil)
    (pss_cons (ps_set (i := 6) sc_law_places.nd rfl (Or.inr rfl) (pe_disp (pps_cons (pv 4) pe_bl pps_nil) rfl rfl (by simp) (by decide)))
    (pss_cons (ps_if (pt_cmpR op_gt (pv 5) pe_int (nomark _)) (pss_one (ps_dput (hu_of hr) (pv 6) (pe_op op_mod (pv 2) pe_int) pe_bl rfl)) pss_nil)
    (pss_cons (ps_if (pt_cmpR op_gt (pv 5) pe_int (nomark _)) (pss_one (ps_dput (hu_of hr) (pv 6) (pe_op op_mod (pe_op op_fdiv (pv 2) pe_int) pe_int) pe_bl rfl)) pss_nil)
    (pss_one (ps_ret (pe_comp (Block.of (out := defScope s_law_places) (N := n_law_places) (x := "k") (frees := ["chosen", "first"]) (ix := [6, 3]) (by decide +kernel)) rfl (pi_range1 rfl T.n_range (pa_cons pe_int pa_nil)) (fun _ _ _ _ => pts_one (pt_cmp (pc_din (hu_of hr) (pv 0) (pv 1)))) (fun _ _ _ _ => (pe_op op_add (pv 2) (pv 0)))))))))))), ?_⟩
  rw [show start n_law_places [V.int one, V.int two, V.int three, V.int first] = [some (V.int one), some (V.int two), some (V.int three), some (V.int first), none, none, none] from rfl]
  have hsz : ∀ {n : Nat}, n ≤ 100000 → n < sizeLine := fun h => Nat.lt_of_le_of_lt h (by decide)
  obtain ⟨d, hd⟩ : ∃ d : Nat, one % 4 = (d : Int) := ⟨(one % 4).toNat, by omega⟩
  have d4 : d < 4 := by omega
  obtain ⟨m, hm⟩ : ∃ m : Nat, 1 + two % 3 = (m : Int) := ⟨(1 + two % 3).toNat, by omega⟩
  have m3 : 1 ≤ m ∧ m ≤ 3 := by omega
  refine seq_of (asg_of (ev_i (ev_var rfl) ev_c (by decide)) ?_)
  dsimp only
  rw [hd]
  refine seq_of (asg_of (ev_i0 ev_c (ev_i (ev_var rfl) ev_c (by decide))) ?_)
  dsimp only
  rw [hm]
  refine seq_of (ifS_of (ev_test (ev_eqI (ev_i (ev_i (ev_var rfl) ev_c (by unfold CDiv; decide)) ev_c (by decide)) ev_c)) (fun _ => ?_) (fun _ => next_of ?_))
  · refine comp_range_if (H1 := H) (lo := 0) (n := m) (fun k => decide (d + k < 4)) (fun k => V.int ((first + d + k : Nat) : Int)) (fun R rr => ?_) (hsz (by omega)) (fun k H' _ _ => ?_) (fun k H' _ _ _ => ?_) (fun p2 hp2 => ?_)
    · refine rng1_of (ev_cons (ev_var rfl) ev_nil) (by omega) (by omega) ?_
      rw [show ((m : Nat) : Int).toNat = m by omega]
      exact rr
    · have e : decide (d + k < 4) = decide ((d : Int) + (0 + (k : Nat)) < 4) := by rw [decide_eq_decide]; omega
      rw [e]
      exact ev_test (ev_i0 (ev_i0 (ev_var rfl) (ev_var rfl)) ev_c)
    · have e : ((first + d + k : Nat) : Int) = (first : Int) + (d : Int) + (0 + (k : Nat)) := by omega
      rw [e]
      exact ev_i0 (ev_i0 (ev_var rfl) (ev_var rfl)) (ev_var rfl)
    · refine q _ p2 (((List.range m).filter fun k => decide (d + k < 4)).map fun k => first + d + k) (same_new hp2 _) hp2 ?_ ?_ ?_
      · rw [upd_same]
        unfold nl
        rw [List.map_map]
        rfl
      · intro z
        have : (0 : Nat) ∈ (List.range m).filter fun k => decide (d + k < 4) := List.mem_filter.mpr ⟨List.mem_range.mpr m3.1, by simpa using d4⟩
        rw [List.map_eq_nil_iff] at z
        rw [z] at this
        cases this
      · rw [List.length_map]
        refine Nat.le_trans (List.length_filter_le _ _) ?_
        rw [List.length_range]
        exact m3.2
  dsimp only
  refine seq_of fun dd hdd => ⟨_, rfl, upd_same, [(Sum.inl (d : Int), V.bl true)], rfl, by show 1 ≤ 15; decide, ?_⟩
  dsimp only [gName]
  rw [upd_upd]
  have s0 : Seen (putK ([] : List (Key × V)) (Sum.inl ((d : Nat) : Int) : Key) (V.bl true)) ([] ++ [d]) := Seen.nil.put d
  show tSeq _ _ _ _ (upd H dd (.dK (putK ([] : List (Key × V)) (Sum.inl ((d : Nat) : Int) : Key) (V.bl true))))
  generalize putK ([] : List (Key × V)) (Sum.inl ((d : Nat) : Int) : Key) (V.bl true) = kvs0 at s0 ⊢
  have sm : ∀ o, Same H (upd H dd o) := fun o => same_new hdd o
  refine cut (fun σ H' => ∃ kvs S, H' = upd H dd (.dK kvs) ∧ Seen kvs S ∧ d ∈ S ∧ S.length ≤ 2 ∧ σ = [some (V.int one), some (V.int two), some (V.int three), some (V.int (first : Int)), some (V.int (d : Int)), some (V.int (m : Int)), some (V.ref dd)]) (fun X hX => ?_) ?_
  · refine ifS_of (ev_test (ev_i0 (ev_var rfl) ev_c)) (fun _ => ?_) (fun _ => next_of (hX _ _ ⟨kvs0, _, rfl, s0, by simp, by simp, rfl⟩))
    obtain ⟨v, hv⟩ : ∃ v : Nat, three % 4 = (v : Int) := ⟨(three % 4).toNat, by omega⟩
    refine dput_of (i := three % 4) ev_c (ev_var rfl) (ev_i (ev_var rfl) ev_c (by decide)) upd_same (hsz (by have := s0.len; simp at this; omega)) ?_
    rw [upd_upd, hv]
    exact hX _ _ ⟨_, _, rfl, s0.put v, by simp, by simp, rfl⟩
  rintro σ H' ⟨kvs, S, rfl, seen, hin, hl, rfl⟩
  refine cut (fun σ H' => ∃ kvs S, H' = upd H dd (.dK kvs) ∧ Seen kvs S ∧ d ∈ S ∧ S.length ≤ 3 ∧ σ = [some (V.int one), some (V.int two), some (V.int three), some (V.int (first : Int)), some (V.int (d : Int)), some (V.int (m : Int)), some (V.ref dd)]) (fun X hX => ?_) ?_
  · refine ifS_of (ev_test (ev_i0 (ev_var rfl) ev_c)) (fun _ => ?_) (fun _ => next_of (hX _ _ ⟨kvs, S, rfl, seen, hin, by omega, rfl⟩))
    obtain ⟨v, hv⟩ : ∃ v : Nat, three / 4 % 4 = (v : Int) := ⟨(three / 4 % 4).toNat, by omega⟩
    refine dput_of (i := three / 4 % 4) ev_c (ev_var rfl) (ev_i (ev_i (ev_var rfl) ev_c (by unfold CDiv; decide)) ev_c (by decide)) upd_same (hsz (by have := seen.len; omega)) ?_
    rw [upd_upd, hv]
    exact hX _ _ ⟨_, _, rfl, seen.put v, by simp [hin], by simp; omega, rfl⟩
  rintro σ H' ⟨kvs, S, rfl, seen, hin, hl, rfl⟩
  refine comp_range_if (H1 := upd H dd (.dK kvs)) (lo := 0) (n := 4) (fun k => decide (k ∈ S)) (fun k => V.int ((first + k : Nat) : Int)) (fun R rr => ?_) (hsz (by omega)) (fun k H' _ s2 => ?_) (fun k H' _ _ _ => ?_) (fun p2 hp2 => ?_)
  · exact rng1_of (ev_cons ev_c ev_nil) (by decide) (by decide) rr
  · rw [show (0 : Int) + (k : Nat) = ((k : Nat) : Int) by omega]
    exact ev_tB (ev_dIn (ev_var rfl) (ev_var rfl) (s2 _ _ upd_same) seen)
  · have e : ((first + k : Nat) : Int) = (first : Int) + (0 + (k : Nat)) := by omega
    rw [e]
    exact ev_i0 (ev_var rfl) (ev_var rfl)
  · refine q _ p2 (((List.range 4).filter fun k => decide (k ∈ S)).map fun k => first + k) ((sm _).new hp2) ((sm _).free hp2) ?_ ?_ ?_
    · rw [upd_same]
      unfold nl
      rw [List.map_map]
      rfl
    · intro z
      have : d ∈ (List.range 4).filter fun k => decide (k ∈ S) := List.mem_filter.mpr ⟨List.mem_range.mpr d4, by simpa using hin⟩
      rw [List.map_eq_nil_iff] at z
      rw [z] at this
      cases this
    · rw [List.length_map]
      refine Nat.le_trans (List.Nodup.length_le_of_subset (List.Pairwise.filter _ List.nodup_range) (l₂ := S) fun k hk => ?_) hl
      exact of_decide_eq_true (List.mem_filter.mp hk).2
end
abbrev s_law_lets : Stmt := top 21
abbrev n_law_lets : List Str := ["rule", "turn", "k"]
abbrev p_law_lets : List Str := ["rule", "turn"]
theorem sc_law_lets : FnScope n_law_lets p_law_lets (defScope s_law_lets) := ⟨rfl, rfl, rfl, by decide +kernel, rfl, by decide +kernel, by decide +kernel⟩
theorem fits_steps {r : Row.Rule} {ts : List Int} : fitsB 15 r ts = true ↔ ts ≠ [] ∧ ts.length ≤ r.2 ∧ Row.Steps r ts ∧ 0 ≤ ts.getD 0 0 ∧ ts.getD (ts.length - 1) 0 < 16 ∧ (r.1 = 1 → ts.length = r.2) := by
  constructor
  · intro hf
    have hlast := fits_last hf
    unfold fitsB at hf
    by_cases c0 : ts = [] ∨ Rises 15 (-1) ts = false
    · rw [if_pos c0] at hf
      cases hf
    rw [if_neg c0] at hf
    have hne : ts ≠ [] := fun z => c0 (.inl z)
    have ri : Rises 15 (-1) ts = true := by
      cases e : Rises 15 (-1) ts with
      | true => rfl
      | false => exact absurd (.inr e) c0
    have hp : 0 < ts.length := List.length_pos_iff.mpr hne
    have at' := rises_at ri
    have h0 : 0 ≤ ts.getD 0 0 := by
      have := at' 0 _ (getD_at hp)
      rw [if_pos rfl] at this
      omega
    have el : ts.getD (ts.length - 1) 0 < 16 := by
      have := hlast.2.2.2
      unfold lastI at this
      omega
    have s1 : ∀ k, 1 ≤ k → k < ts.length → ts.getD (k - 1) 0 < ts.getD k 0 := fun k k1 k2 => by
      have := at' k _ (getD_at k2)
      rw [if_neg (by omega)] at this
      omega
    have up := up_of s1
    have st : (r.1 = 2 → ts.getD (ts.length - 1) 0 - ts.getD 0 0 < ts.length) → Row.Steps r ts := fun hh k k1 k2 => ⟨s1 k k1 k2, fun h2 => by
      have a := s1 k k1 k2
      have b := up k (ts.length - 1 - k) (by omega)
      rw [show k + (ts.length - 1 - k) = ts.length - 1 by omega] at b
      have c := up 0 (k - 1) (by omega)
      rw [Nat.zero_add] at c
      have d := hh h2
      omega⟩
    by_cases c1 : r.1 = 1
    · rw [if_pos c1] at hf
      have hf := of_decide_eq_true hf
      exact ⟨hne, by omega, st (fun z => by omega), h0, el, fun _ => hf⟩
    · rw [if_neg c1] at hf
      by_cases c2 : r.1 = 2 ∧ (ts.length : Int) ≤ ts.getD (ts.length - 1) 0 - ts.getD 0 0
      · rw [if_pos c2] at hf
        cases hf
      · rw [if_neg c2] at hf
        exact ⟨hne, of_decide_eq_true hf, st (fun z => by omega), h0, el, fun z => absurd z c1⟩
  · rintro ⟨hne, hk, st, h0, el, hj⟩
    have hp : 0 < ts.length := List.length_pos_iff.mpr hne
    have up := up_of (ts := ts) (fun k k1 k2 => (st k k1 k2).1)
    have ri : Rises 15 (-1) ts = true := rises_all fun k y hy => by
      have kl : k < ts.length := (List.getElem?_eq_some_iff.mp hy).1
      have ey : y = ts.getD k 0 := by
        have := getD_at kl
        rw [hy] at this
        exact Option.some.inj this
      have u := up k (ts.length - 1 - k) (by omega)
      rw [show k + (ts.length - 1 - k) = ts.length - 1 by omega] at u
      subst ey
      by_cases c : k = 0
      · subst c
        rw [if_pos rfl]
        omega
      · rw [if_neg c]
        have := (st k (by omega) kl).1
        omega
    unfold fitsB
    rw [if_neg (by rw [ri]; simp [hne])]
    by_cases c1 : r.1 = 1
    · rw [if_pos c1]
      exact decide_eq_true (hj c1)
    · rw [if_neg c1]
      have c2 : ¬ (r.1 = 2 ∧ (ts.length : Int) ≤ ts.getD (ts.length - 1) 0 - ts.getD 0 0) := by
        rintro ⟨h2, h3⟩
        have go : ∀ k, k < ts.length → ts.getD k 0 = ts.getD 0 0 + (k : Int) := fun k => by
          induction k with
          | zero => intro _; simp
          | succ k ih =>
            intro hk
            have a1 := (st (k + 1) (by omega) hk).2 h2
            rw [Nat.add_sub_cancel] at a1
            rw [a1, ih (by omega)]
            omega
        have := go (ts.length - 1) (by omega)
        omega
      rw [if_neg c2]
      exact decide_eq_true hk
def spLets11 (K : PySem.W.Frag) : Sp := fun vs H Q _ => ∃ (pr pt : Addr) (r : Row.Rule) (ts : List Int), vs = [.ref pr, .ref pt] ∧ SqT K H pr (ruleV r) ∧ Row.Good r ∧ SqL K H pt (ts.map V.int) ∧ ts.length ≤ 1000 ∧ Q (.bl (fitsB 15 r ts)) H
section
variable {P : Program} {w : World} {K : PySem.W.Frag} {mg : Str → Option Value} {base : Heap}
structure TxLe (mg : Str → Option Value) : Prop where
  n_range : mg "range" = none
  n_len : mg "len" = none
set_option pp.deepTerms true in
theorem ok_lets (D : HasDef K mg "_law_lets" s_law_lets) (T : TxLe mg) : Callee P w K mg base "_law_lets" 1 p_law_lets (spLets11 K) := by
  refine D.ok sc_law_lets (fun _ _ _ _ _ _ us hl => match us, hl with | [_, _], _ => rfl) (fun vs H Q E h => ?_) (fun f cdv A outer s H vs Q E hr h => ?_)
  · obtain ⟨pr, pt, r, ts, rfl, _⟩ := h
    rfl
  obtain ⟨pr, pt, r, ts, rfl, hR, hg, hT, hlen, q⟩ := h
  refine ⟨_, (pss_cons (ps_if (PW.pt (pw_or (pt_cmpR op_eq (pe_callB call_len_seq rfl T.n_len bt_len (pa_cons (pv 1) pa_nil)) pe_int (nomark _)) (pw_or1 (pt_cmpR op_gt (pe_callB call_len_seq rfl T.n_len bt_len (pa_cons (pv 1) pa_nil)) (pe_ix ix_tup (pv 0) pe_int (fun _ _ => rfl)) (nomark _))))) (pss_one (ps_ret pe_bl)) pss_nil)
    (pss_cons (ps_for PassesOwn.never rfl (pi_range2 rfl T.n_range (pa_cons pe_int (pa_cons (pe_callB call_len_seq rfl T.n_len bt_len (pa_cons (pv 1) pa_nil)) pa_nil))) (pg_name (i := 2) sc_law_lets.nd rfl (Or.inl rfl)) (pss_one (ps_if (PW.pt (pw_or (pt_cmpR op_le (pe_ix ix_list (pv 1) (pv 2) (fun _ _ => rfl)) (pe_ix ix_list (pv 1) (pe_op op_sub (pv 2) pe_int) (fun _ _ => rfl)) (nomark _)) (pw_or1 (PW.pt (pw_and (pt_cmpR op_eq (pe_ix ix_tup (pv 0) pe_int (fun _ _ => rfl)) pe_str (nomark _)) (pw_and1 (pt_cmpR op_ne (pe_ix ix_list (pv 1) (pv 2) (fun _ _ => rfl)) (pe_op op_add (pe_ix ix_list (pv 1) (pe_op op_sub (pv 2) pe_int) (fun _ _ => rfl)) pe_int) (nomark _)))))))) (pss_one (ps_ret pe_bl)) pss_nil)))
    (pss_one (ps_ret (pe_and (pe_cmpR op_ge (pe_ix ix_list (pv 1) pe_int (fun _ _ => rfl)) pe_int (nomark _)) (pe_and (pe_cmpR op_lt (pe_ix ix_list (pv 1) (pe_un un_neg pe_int) (fun _ _ => rfl)) pe_int (nomark _)) (pe_one (pe_or (pe_cmpR op_ne (pe_ix ix_tup (pv 0) pe_int (fun _ _ => rfl)) pe_str (nomark _)) (pe_one (pe_cmpR op_eq (pe_callB call_len_seq rfl T.n_len bt_len (pa_cons (pv 1) pa_nil)) (pe_ix ix_tup (pv 0) pe_int (fun _ _ => rfl)) (nomark _))))))))))), ?_⟩
  rw [show start n_law_lets [V.ref pr, V.ref pt] = [some (V.ref pr), some (V.ref pt), none] from rfl]
  have r2 : r.1 ≤ 2 := by rcases hg with ⟨h, _⟩ | ⟨h, _⟩ <;> omega
  have iff := fits_steps (r := r) (ts := ts)
  have no : ¬ (fitsB 15 r ts = true) → Q (.bl false) H := fun h => by
    rw [Bool.eq_false_iff.mpr h] at q
    exact q
  have ll : ((ts.map V.int).length : Int) = (ts.length : Int) := by rw [List.length_map]
  refine cut (fun σ H' => H' = H ∧ ts ≠ [] ∧ ts.length ≤ r.2 ∧ σ = [some (V.ref pr), some (V.ref pt), none]) (fun X hX => ?_) ?_
  · refine ifS_of (ev_or (ev_test (ev_eqI (ev_lenL (ev_cons (ev_var rfl) ev_nil) hT) ev_c)) fun _ => ev_test (ev_i0 (ev_lenL (ev_cons (ev_var rfl) ev_nil) hT) (ev_rule1 rfl hR))) (fun c => ?_) fun c => next_of (hX _ _ ?_)
    · refine ret_of ev_c (no fun h => ?_)
      obtain ⟨h1, h2, _⟩ := iff.mp h
      have hp : 0 < ts.length := List.length_pos_iff.mpr h1
      rcases Bool.or_eq_true_iff.mp c with c | c
      · have c : ((ts.map V.int).length : Int) = 0 := of_decide_eq_true c
        omega
      · have c : (r.2 : Int) < ((ts.map V.int).length : Int) := of_decide_eq_true c
        omega
    · have c := Bool.or_eq_false_iff.mp c
      have c1 : ¬ ((ts.map V.int).length : Int) = 0 := of_decide_eq_false c.1
      have c3 : ¬ (r.2 : Int) < ((ts.map V.int).length : Int) := of_decide_eq_false c.2
      exact ⟨rfl, fun z => c1 (by rw [z]; rfl), by omega, rfl⟩
  rintro σ H' ⟨rfl, hne, hle, rfl⟩
  have hp : 0 < ts.length := List.length_pos_iff.mpr hne
  refine seq_of (rng2_of (ev_cons ev_c (ev_cons (ev_lenL (ev_cons (ev_var rfl) ev_nil) hT) ev_nil)) (by decide) (by decide) (by omega) (by omega) ?_)
  rw [show (((ts.map V.int).length : Int) - 1).toNat = ts.length - 1 by omega]
  refine for_range (fun i σ H2 => H2 = H' ∧ (∀ k, 1 ≤ k → k < 1 + i → ts.getD (k - 1) 0 < ts.getD k 0 ∧ (r.1 = 2 → ts.getD k 0 = ts.getD (k - 1) 0 + 1)) ∧ ∃ u, σ = [some (V.ref pr), some (V.ref pt), u]) ⟨rfl, fun k k1 k2 => by omega, none, rfl⟩ ?_ ?_
  · rintro i σ H2 hi ⟨rfl, st, u, rfl⟩
    dsimp only [gName]
    have a1 : EvE (tOp (rIxL K) (tVar 1) (tVar 2)) [some (V.ref pr), some (V.ref pt), some (V.int (1 + (i : Nat)))] H2 (.int (ts.getD (1 + i) 0)) := ev_atI (1 + i) (ev_var rfl) (ev_var rfl) hT (by omega) (by omega)
    have a0 : EvE (tOp (rIxL K) (tVar 1) (tOp (rI0 fun i j => V.int (i - j)) (tVar 2) (tC (V.int 1)))) [some (V.ref pr), some (V.ref pt), some (V.int (1 + (i : Nat)))] H2 (.int (ts.getD i 0)) := ev_atI i (ev_var rfl) (ev_i0 (ev_var rfl) ev_c) hT (by omega) (by omega)
    refine ifS_of (ev_or (ev_test (ev_i0 a1 a0)) fun _ => ev_and (ev_test (ev_isRun rfl hR r2)) fun _ => ev_test (ev_neI a1 (ev_i0 a0 ev_c))) (fun c => ?_) fun c => next_of ⟨rfl, fun k k1 k2 => ?_, _, rfl⟩
    · refine ret_of ev_c (no fun h => ?_)
      obtain ⟨_, _, st', _⟩ := iff.mp h
      have s1 := st' (1 + i) (by omega) (by omega)
      rw [Nat.add_sub_cancel_left] at s1
      rcases Bool.or_eq_true_iff.mp c with c | c
      · have c := of_decide_eq_true c
        omega
      · have c := Bool.and_eq_true_iff.mp c
        have c1 := of_decide_eq_true c.1
        have c2 := c.2
        rw [Bool.not_eq_true'] at c2
        exact (of_decide_eq_false c2) (s1.2 c1)
    · by_cases e : k = 1 + i
      · subst e
        rw [Nat.add_sub_cancel_left]
        have c := Bool.or_eq_false_iff.mp c
        have c1 := of_decide_eq_false c.1
        refine ⟨by omega, fun z => ?_⟩
        have c2 := c.2
        rw [decide_eq_true z, Bool.true_and, Bool.not_eq_false'] at c2
        exact of_decide_eq_true c2
      · exact st k k1 (by omega)
  · rintro σ H2 ⟨rfl, st, u, rfl⟩
    dsimp only
    have a0 : EvE (tOp (rIxL K) (tVar 1) (tC (V.int 0))) [some (V.ref pr), some (V.ref pt), u] H2 (.int (ts.getD 0 0)) := ev_atI 0 (ev_var rfl) ev_c hT rfl hp
    refine ret_of (ev_andV (ev_i0 a0 ev_c) fun _ => ev_andV (ev_i0 (ev_atEnd (ev_var rfl) (ev_u ev_c) hT hne) ev_c) fun _ => ev_orV (ev_notJust rfl hR r2) fun _ => ev_eqI (ev_lenL (ev_cons (ev_var rfl) ev_nil) hT) (ev_rule1 rfl hR)) ?_
    have stp : Row.Steps r ts := fun k k1 k2 => st k k1 (by omega)
    have e : fitsB 15 r ts = (decide (0 ≤ ts.getD 0 0) && (decide (ts.getD (ts.length - 1) 0 < 16) && (!decide (r.1 = 1) || decide (((ts.map V.int).length : Int) = (r.2 : Int))))) := by
      rw [Bool.eq_iff_iff, iff, Bool.and_eq_true_iff, Bool.and_eq_true_iff, Bool.or_eq_true_iff, decide_eq_true_iff, decide_eq_true_iff, decide_eq_true_iff, Bool.not_eq_true', decide_eq_false_iff_not]
      constructor
      · rintro ⟨_, _, _, h1, h2, h3⟩
        refine ⟨h1, h2, ?_⟩
        by_cases z : r.1 = 1
        · exact .inr (by have := h3 z; omega)
        · exact .inl z
      · rintro ⟨h1, h2, h3⟩
        exact ⟨hne, hle, stp, h1, h2, fun z => by omega⟩
    rw [e] at q
    exact q
end
abbrev s_law_is_board : Stmt := top 22
abbrev n_law_is_board : List Str := ["found", "due", "k", "place"]
abbrev p_law_is_board : List Str := ["found", "due"]
theorem sc_law_is_board : FnScope n_law_is_board p_law_is_board (defScope s_law_is_board) := ⟨rfl, rfl, rfl, by decide +kernel, rfl, by decide +kernel, by decide +kernel⟩
def spIsBoard : Sp := fun vs H Q _ => ∃ (pf pd : Addr) (ps : List (Nat × Nat)) (rs ss : List Addr), vs = [.ref pf, .ref pd] ∧ H pf = some (.lst (rs.map V.ref)) ∧ PL H ps rs ∧ H pd = some (.lst (ss.map V.ref)) ∧ PL H ps ss ∧ ps.length ≤ 1000 ∧ Q (.bl true) H
section
variable {P : Program} {w : World} {K : PySem.W.Frag} {mg : Str → Option Value} {base : Heap}
structure TxIb (mg : Str → Option Value) : Prop where
  n_isinstance : mg "isinstance" = none
  n_list : mg "list" = none
  n_int : mg "int" = none
  n_bool : mg "bool" = none
  n_tuple : mg "tuple" = none
  n_len : mg "len" = none
  n_range : mg "range" = none
theorem ev_neP {σ : St} {H : Hp} {ta tb : TE} {a b : Addr} {p : Nat × Nat} (ha : EvE ta σ H (.ref a)) (hb : EvE tb σ H (.ref b)) (h : SqT K H a [.int (p.1 : Int), .int (p.2 : Int)]) (h' : SqT K H b [.int (p.1 : Int), .int (p.2 : Int)]) : EvE (tOp (rNeD K 0) ta tb) σ H (.bl false) := fun Q q => ha _ (hb _ ⟨true, _, _, dat_pair h, dat_pair h', fun c hc => by
  have : c = false := by
    cases c with
    | false => rfl
    | true => exact absurd rfl (hc.mp rfl)
  rw [this]
  exact q⟩)
set_option pp.deepTerms true in
theorem ok_is_board (D : HasDef K mg "_law_is_board" s_law_is_board) (T : TxIb mg) : Callee P w K mg base "_law_is_board" 1 p_law_is_board spIsBoard := by
  refine D.ok sc_law_is_board (fun _ _ _ _ _ _ us hl => match us, hl with | [_, _], _ => rfl) (fun vs H Q E h => ?_) (fun f cdv A outer s H vs Q E hr h => ?_)
  · obtain ⟨pf, pd, ps, rs, ss, rfl, _⟩ := h
    rfl
  obtain ⟨pf, pd, ps, rs, ss, rfl, hf, hP, hd, hS, hlen, q⟩ := h
  refine ⟨_, (pss_cons (ps_if (PW.pt (pw_or (pt_not (pt_val (pe_callB call_isi rfl T.n_isinstance bt_isinstance (pa_cons (pv 0) (pa_cons (pe_ty T.n_list bt_list) pa_nil))))) (pw_or1 (pt_cmpR op_ne (pe_callB call_len_seq rfl T.n_len bt_len (pa_cons (pv 0) pa_nil)) (pe_callB call_len_seq rfl T.n_len bt_len (pa_cons (pv 1) pa_nil)) (nomark _))))) (pss_one (ps_ret pe_bl)) pss_nil)
    (pss_cons (ps_for PassesOwn.never rfl (pi_range1 rfl T.n_range (pa_cons (pe_callB call_len_seq rfl T.n_len bt_len (pa_cons (pv 1) pa_nil)) pa_nil)) (pg_name (i := 2) sc_law_is_board.nd rfl (Or.inl rfl)) (pss_cons (ps_if (PW.pt (pw_or (pt_not (pt_val (pe_callB call_isi rfl T.n_isinstance bt_isinstance (pa_cons (pe_ix ix_list (pv 0) (pv 2) (fun _ _ => rfl)) (pa_cons (pe_ty T.n_tuple bt_tuple) pa_nil))))) (pw_or1 (pt_cmpR op_ne (pe_callB call_len_seq rfl T.n_len bt_len (pa_cons (pe_ix ix_list (pv 0) (pv 2) (fun _ _ => rfl)) pa_nil)) pe_int (nomark _))))) (pss_one (ps_ret pe_bl)) pss_nil)
    (pss_cons (ps_for PassesOwn.never rfl (pi_tup (pe_ix ix_list (pv 0) (pv 2) (fun _ _ => rfl))) (pg_name (i := 3) sc_law_is_board.nd rfl (Or.inl rfl)) (pss_one (ps_if (PW.pt (pw_or (pt_not (pt_val (pe_callB call_isi rfl T.n_isinstance bt_isinstance (pa_cons (pv 3) (pa_cons (pe_ty T.n_int bt_int) pa_nil))))) (pw_or1 (pt_val (pe_callB call_isi rfl T.n_isinstance bt_isinstance (pa_cons (pv 3) (pa_cons (pe_ty T.n_bool bt_bool) pa_nil))))))) (pss_one (ps_ret pe_bl)) pss_nil)))
    (pss_one (ps_if (pt_cmpR (op_neD (n := 0) hr (by decide)) (pe_ix ix_list (pv 0) (pv 2) (fun _ _ => rfl)) (pe_ix ix_list (pv 1) (pv 2) (fun _ _ => rfl)) (nomark _)) (pss_one (ps_ret pe_bl)) pss_nil)))))
    (pss_one (ps_ret pe_bl)))), ?_⟩
  rw [show start n_law_is_board [V.ref pf, V.ref pd] = [some (V.ref pf), some (V.ref pd), none, none] from rfl]
  have lr := hP.length
  have ls := hS.length
  refine seq_of (ifS_of (ev_or (ev_not (ev_tB (ev_isList (ev_cons (ev_var rfl) (ev_cons ev_c ev_nil)) hf))) fun _ => ev_test (ev_neI (ev_lenL (ev_cons (ev_var rfl) ev_nil) (.of hf)) (ev_lenL (ev_cons (ev_var rfl) ev_nil) (.of hd)))) (fun c => ?_) fun c => next_of ?_)
  · rw [List.length_map, List.length_map, ← lr, ← ls] at c
    exact absurd c (by simp)
  dsimp only
  refine seq_of (rng1_of (ev_cons (ev_lenL (ev_cons (ev_var rfl) ev_nil) (.of hd)) ev_nil) (by omega) (by rw [List.length_map]; omega) ?_)
  rw [List.length_map, ← ls, show ((ps.length : Nat) : Int).toNat = ps.length by omega]
  refine for_range (fun i σ H' => H' = H ∧ ∃ u v, σ = [some (V.ref pf), some (V.ref pd), u, v]) ⟨rfl, none, none, rfl⟩ ?_ ?_
  · rintro i σ H' hi ⟨rfl, u, v, rfl⟩
    dsimp only [gName]
    have ir : i < rs.length := by omega
    have is' : i < ss.length := by omega
    obtain ⟨p, h1, h2⟩ := paired_get hP (List.getElem?_eq_getElem ir)
    obtain ⟨p', h1', h2'⟩ := paired_get hS (List.getElem?_eq_getElem is')
    rw [h1] at h1'
    cases h1'
    have i0 : ∀ v, EvE (tOp (rIxL K) (tVar 0) (tVar 2)) [some (V.ref pf), some (V.ref pd), some (V.int (0 + (i : Nat))), v] H' (.ref rs[i]) := fun v => ev_ixL (ev_var rfl) (ev_var rfl) (.of hf) (by rw [Int.zero_add]; exact atI_nat (by rw [List.getElem?_map, List.getElem?_eq_getElem ir]; rfl))
    have i1 : ∀ v, EvE (tOp (rIxL K) (tVar 1) (tVar 2)) [some (V.ref pf), some (V.ref pd), some (V.int (0 + (i : Nat))), v] H' (.ref ss[i]) := fun v => ev_ixL (ev_var rfl) (ev_var rfl) (.of hd) (by rw [Int.zero_add]; exact atI_nat (by rw [List.getElem?_map, List.getElem?_eq_getElem is']; rfl))
    refine seq_of (ifS_of (ev_or (ev_not (ev_tB (ev_isTup (ev_cons (i0 v) (ev_cons ev_c ev_nil)) h2))) fun _ => ev_test (ev_neI (ev_lenT (ev_cons (i0 v) ev_nil) (.inl (.inl h2))) ev_c)) (fun c => absurd c (by simp)) fun _ => next_of ?_)
    dsimp only
    refine seq_of (i0 v _ ⟨_, rfl, ⟨_, .inl (.inl h2)⟩, ?_⟩)
    refine for_tup (xs := [V.int (p.1 : Int), V.int (p.2 : Int)]) (fun k σ H2 => H2 = H' ∧ ∃ v, σ = [some (V.ref pf), some (V.ref pd), some (V.int (0 + (i : Nat))), v]) ⟨rfl, v, rfl⟩ ?_ ?_ ?_
    · rintro k σ H2 _ ⟨rfl, _⟩
      exact .inl (.inl h2)
    · rintro k x σ H2 hx ⟨rfl, v, rfl⟩
      obtain ⟨z, rfl⟩ : ∃ z : Int, x = V.int z := by
        have := List.mem_of_getElem? hx
        simp at this
        rcases this with rfl | rfl <;> exact ⟨_, rfl⟩
      dsimp only [gName]
      exact ifS_of (ev_or (ev_not (ev_tB (ev_isInt (i := z) (ev_cons (ev_var rfl) (ev_cons ev_c ev_nil))))) fun _ => ev_tB (ev_notBool (i := z) (ev_cons (ev_var rfl) (ev_cons ev_c ev_nil)))) (fun c => absurd c (by decide)) fun _ => next_of ⟨rfl, _, rfl⟩
    · rintro σ H2 ⟨rfl, v, rfl⟩
      dsimp only
      exact ifS_of (ev_test (ev_neP (i0 v) (i1 v) (.inl (.inl h2)) (.inl (.inl h2')))) (fun c => by cases c) fun _ => next_of ⟨rfl, _, _, rfl⟩
  · rintro σ H' ⟨rfl, u, v, rfl⟩
    dsimp only
    exact ret_of ev_c q
end
abbrev s_law_spoilt : Stmt := top 24
abbrev n_law_spoilt : List Str := ["xs", "ys", "way"]
abbrev p_law_spoilt : List Str := ["xs", "ys", "way"]
theorem sc_law_spoilt : FnScope n_law_spoilt p_law_spoilt (defScope s_law_spoilt) := ⟨rfl, rfl, rfl, by decide +kernel, rfl, by decide +kernel, by decide +kernel⟩
def spSpoilt11 : Sp := fun vs H Q _ => ∃ (px py : Addr) (t u : List Nat) (way : Int), vs = [.ref px, .ref py, .int way] ∧ H px = some (.lst (nl t)) ∧ H py = some (.lst (nl u)) ∧ t ≠ [] ∧ t.length ≤ 3 ∧ u.length ≤ 3 ∧ ∀ H' z a b (ts us : List Int), Same H H' → H' z = some (.tup [.ref a, .ref b]) → H' a = some (.lst (ts.map V.int)) → H' b = some (.lst (us.map V.int)) → ts.length ≤ 4 → us.length ≤ 3 → Q (.ref z) H'
theorem cut_some {ts : List Int} {lo hi : Option Int} : ∃ cs : List Int, cutV (ts.map V.int) lo hi = cs.map V.int ∧ cs.length ≤ ts.length := by
  unfold cutV
  refine ⟨(ts.drop (HT.sIx (ts.map V.int).length 0 lo)).take (HT.sIx (ts.map V.int).length (ts.map V.int).length hi - HT.sIx (ts.map V.int).length 0 lo), by rw [List.map_take, List.map_drop], ?_⟩
  rw [List.length_take, List.length_drop]
  omega
section
variable {P : Program} {w : World} {K : PySem.W.Frag} {mg : Str → Option Value} {base : Heap}
set_option pp.deepTerms true in
theorem ok_spoilt (D : HasDef K mg "_law_spoilt" s_law_spoilt) (T : TxLe mg) : Callee P w K mg base "_law_spoilt" 1 p_law_spoilt spSpoilt11 := by
  refine D.ok sc_law_spoilt (fun _ _ _ _ _ _ us hl => match us, hl with | [_, _, _], _ => rfl) (fun vs H Q E h => ?_) (fun f cdv A outer s H vs Q E hr h => ?_)
  · obtain ⟨px, py, t, u, way, rfl, _⟩ := h
    rfl
  obtain ⟨px, py, t, u, way, rfl, hT, hU, hne, ht3, hu3, q⟩ := h
  refine ⟨_, (pss_cons (ps_if (pt_cmpR op_eq (pv 2) pe_int (nomark _)) (pss_one (ps_ret (pe_tup (pa_cons (pe_op op_cat (pv 0) (pe_lst (pa_cons (pe_ix ix_list (pv 0) (pe_un un_neg pe_int) (fun _ _ => rfl)) pa_nil))) (pa_cons (pv 1) pa_nil))))) pss_nil)
    (pss_cons (ps_if (pt_cmpR op_eq (pv 2) pe_int (nomark _)) (pss_one (ps_ret (pe_tup (pa_cons (pv 0) (pa_cons (pe_comp (Block.of (out := defScope s_law_spoilt) (N := n_law_spoilt) (x := "k") (frees := ["ys"]) (ix := [1]) (by decide +kernel)) rfl (pi_range1 rfl T.n_range (pa_cons (pe_callB call_len_seq rfl T.n_len bt_len (pa_cons (pv 1) pa_nil)) pa_nil)) (fun _ _ _ _ => pts_nil) (fun _ _ _ _ => (pe_ix (ix_listK (K := K) rfl) (pv 1) (pe_op op_sub (pe_op op_sub (pe_callB (call_lenK (K := K) rfl) rfl T.n_len bt_len (pa_cons (pv 1) pa_nil)) pe_int) (pv 0)) (fun _ _ => rfl)))) pa_nil))))) pss_nil)
    (pss_cons (ps_if (pt_cmpR op_eq (pv 2) pe_int (nomark _)) (pss_one (ps_ret (pe_tup (pa_cons (pe_lst pa_nil) (pa_cons (pv 1) pa_nil))))) pss_nil)
    (pss_cons (ps_if (pt_cmpR op_eq (pv 2) pe_int (nomark _)) (pss_one (ps_ret (pe_tup (pa_cons (pv 0) (pa_cons (pe_lst pa_nil) pa_nil))))) pss_nil)
    (pss_cons (ps_if (pt_cmpR op_eq (pv 2) pe_int (nomark _)) (pss_one (ps_ret (pe_tup (pa_cons (pe_op op_cat (pe_slice sl_list (pv 0) po_none (po_some (pe_un un_neg pe_int))) (pe_lst (pa_cons pe_int pa_nil))) (pa_cons (pv 1) pa_nil))))) pss_nil)
    (pss_cons (ps_if (pt_cmpR op_eq (pv 2) pe_int (nomark _)) (pss_one (ps_ret (pe_tup (pa_cons (pe_op op_cat (pe_lst (pa_cons (pe_un un_neg pe_int) pa_nil)) (pv 0)) (pa_cons (pv 1) pa_nil))))) pss_nil)
    (pss_one (ps_ret (pe_tup (pa_cons (pv 0) (pa_cons (pv 1) pa_nil))))))))))), ?_⟩
  rw [show start n_law_spoilt [V.ref px, V.ref py, V.int way] = [some (V.ref px), some (V.ref py), some (V.int way)] from rfl]
  have two : ∀ a b : V, ([a, b] : List V).length ≤ sizeLine := fun a b => by show 2 ≤ sizeLine; decide
  have hsz : ∀ {n : Nat}, n ≤ 100000 → n < sizeLine := fun h => Nat.lt_of_le_of_lt h (by decide)
  rw [nl_ni] at hT hU
  have lt : (ni t).length = t.length := by unfold ni; simp
  have lu : (ni u).length = u.length := by unfold ni; simp
  have hne' : ni t ≠ [] := fun z => hne (by unfold ni at z; exact List.map_eq_nil_iff.mp z)
  generalize ni t = ts at hT lt hne'
  generalize ni u = us at hU lu
  have fin : ∀ {H1 : Hp} {a b : Addr} {as bs : List Int}, Same H H1 → H1 a = some (.lst (as.map V.int)) → H1 b = some (.lst (bs.map V.int)) → as.length ≤ 4 → bs.length ≤ 3 → ∀ z, H1 z = none → Q (.ref z) (upd H1 z (.tup [.ref a, .ref b])) := fun sm ha hb la lb z hz => q _ z _ _ _ _ (sm.new hz) upd_same (same_new hz _ _ _ ha) (same_new hz _ _ _ hb) la lb
  refine seq_of (ifS_of (ev_test (ev_eqI (ev_var rfl) ev_c)) (fun _ => ?_) fun _ => next_of ?_)
  · refine retO_of ?_
    refine ⟨_, rfl, ?_⟩
    refine lst_of (ev_cons (ev_atEnd (ev_var rfl) (ev_u ev_c) (.of hT) hne') ev_nil) (by show 1 ≤ sizeLine; decide) fun p hp => ?_
    refine ⟨px, p, _, _, rfl, rfl, same_new hp _ _ _ hT, upd_same, by rw [List.length_map]; exact Nat.le_of_lt (hsz (by simp; omega)), fun p2 hp2 => ?_⟩
    have sm := (same_new hp (.lst [V.int (ts.getD (ts.length - 1) 0)])).new (o := .lst (ts.map V.int ++ [V.int (ts.getD (ts.length - 1) 0)])) hp2
    exact ⟨_, rfl, two _ _, fin sm (as := ts ++ [ts.getD (ts.length - 1) 0]) (by rw [upd_same, List.map_append]; rfl) (sm _ _ hU) (by rw [List.length_append]; simp; omega) (by omega)⟩
  dsimp only
  refine seq_of (ifS_of (ev_test (ev_eqI (ev_var rfl) ev_c)) (fun _ => ?_) fun _ => next_of ?_)
  · refine retO_of ?_
    refine ⟨_, rfl, comp_range (H1 := H) (lo := 0) (n := us.length) (fun k => V.int (us.getD (us.length - 1 - k) 0)) (fun R rr => ?_) (hsz (by omega)) (fun k H' R hk sm rr => ?_) (fun p hp => ?_)⟩
    · refine rng1_of (ev_cons (ev_lenL (ev_cons (ev_var rfl) ev_nil) (.of hU)) ev_nil) (by omega) (by rw [List.length_map]; omega) ?_
      rw [List.length_map, show ((us.length : Nat) : Int).toNat = us.length by omega]
      exact rr
    · exact ev_atI (us.length - 1 - k) (ev_var rfl) (ev_i0 (ev_i0 (ev_lenL (ev_cons (ev_var rfl) ev_nil) (.of (sm _ _ hU))) ev_c) (ev_var rfl)) (.of (sm _ _ hU)) (by rw [List.length_map]; omega) (by omega) _ rr
    · refine ⟨two _ _, fin (same_new hp _) (bs := (List.range us.length).map fun k => us.getD (us.length - 1 - k) 0) (same_new hp _ _ _ hT) ?_ (by omega) (by simp; omega)⟩
      rw [upd_same, List.map_map]
      rfl
  dsimp only
  refine seq_of (ifS_of (ev_test (ev_eqI (ev_var rfl) ev_c)) (fun _ => ?_) fun _ => next_of ?_)
  · refine retO_of ?_
    exact ⟨by decide, fun p hp => ⟨_, rfl, two _ _, fin (same_new hp _) (as := []) upd_same (same_new hp _ _ _ hU) (by simp) (by omega)⟩⟩
  dsimp only
  refine seq_of (ifS_of (ev_test (ev_eqI (ev_var rfl) ev_c)) (fun _ => ?_) fun _ => next_of ?_)
  · refine retO_of ?_
    exact ⟨_, rfl, by decide, fun p hp => ⟨two _ _, fin (same_new hp _) (bs := []) (same_new hp _ _ _ hT) upd_same (by omega) (by simp)⟩⟩
  dsimp only
  refine seq_of (ifS_of (ev_test (ev_eqI (ev_var rfl) ev_c)) (fun _ => ?_) fun _ => next_of ?_)
  · refine retO_of ?_
    refine ⟨_, rfl, 1, rfl, _, rfl, px, _, rfl, .of hT, fun p1 hp1 => ?_⟩
    obtain ⟨cs, ec, lc⟩ := cut_some (ts := ts)
    rw [ec]
    have s1 := same_new hp1 (.lst (cs.map V.int))
    refine ⟨by show 1 ≤ sizeLine; decide, fun p2 hp2 => ?_⟩
    refine ⟨p1, p2, _, _, rfl, rfl, same_new hp2 _ _ _ upd_same, upd_same, by rw [List.length_map]; exact Nat.le_of_lt (hsz (by simp; omega)), fun p3 hp3 => ?_⟩
    have sm := (s1.new (o := .lst [V.int 16]) hp2).new (o := .lst (cs.map V.int ++ [V.int 16])) hp3
    exact ⟨_, rfl, two _ _, fin sm (as := cs ++ [16]) (by rw [upd_same, List.map_append]; rfl) (sm _ _ hU) (by rw [List.length_append]; simp; omega) (by omega)⟩
  dsimp only
  refine seq_of (ifS_of (ev_test (ev_eqI (ev_var rfl) ev_c)) (fun _ => ?_) fun _ => next_of ?_)
  · refine retO_of ?_
    refine ⟨1, rfl, by show 1 ≤ sizeLine; decide, fun p hp => ⟨_, rfl, ?_⟩⟩
    refine ⟨p, px, _, _, rfl, rfl, upd_same, same_new hp _ _ _ hT, by rw [List.length_map]; exact Nat.le_of_lt (hsz (by simp; omega)), fun p2 hp2 => ?_⟩
    have sm := (same_new hp (.lst [V.int (-1)])).new (o := .lst ([V.int (-1)] ++ ts.map V.int)) hp2
    exact ⟨_, rfl, two _ _, fin sm (as := -1 :: ts) (by rw [upd_same]; rfl) (sm _ _ hU) (by simp; omega) (by omega)⟩
  · dsimp only
    exact retO_of ⟨_, rfl, _, rfl, two _ _, fin (Same.refl H) hT hU (by omega) (by omega)⟩
end
abbrev s_law_behind : Stmt := top 25
abbrev n_law_behind : List Str := ["heads", "xs", "ys", "behind", "x"]
abbrev p_law_behind : List Str := ["heads", "xs", "ys"]
theorem sc_law_behind : FnScope n_law_behind p_law_behind (defScope s_law_behind) := ⟨rfl, rfl, rfl, by decide +kernel, rfl, by decide +kernel, by decide +kernel⟩
def spBehind11 (K : PySem.W.Frag) : Sp := fun vs H Q _ => ∃ (ph px py : Addr) (ps : List (Nat × Nat)) (rs : List Addr) (t u : List Nat), vs = [.ref ph, .ref px, .ref py] ∧ SqL K H ph (rs.map V.ref) ∧ BL K H ps rs ∧ SqL K H px (nl t) ∧ SqL K H py (nl u) ∧ ∀ H' p ss, Same H H' → H p = none → H' p = some (.lst (ss.map V.ref)) → PL H' (Row.behind2 16 ps (t, u)) ss → Q (.ref p) H'
section
variable {P : Program} {w : World} {K : PySem.W.Frag} {mg : Str → Option Value} {base : Heap}
structure TxBh (mg : Str → Option Value) : Prop where
  n_range : mg "range" = none
set_option pp.deepTerms true in
theorem ok_behind (D : HasDef K mg "_law_behind" s_law_behind) (T : TxBh mg) : Callee P w K mg base "_law_behind" 1 p_law_behind (spBehind11 K) := by
  refine D.ok sc_law_behind (fun _ _ _ _ _ _ us hl => match us, hl with | [_, _, _], _ => rfl) (fun vs H Q E h => ?_) (fun f cdv A outer s H vs Q E hr h => ?_)
  · obtain ⟨ph, px, py, ps, rs, t, u, rfl, _⟩ := h
    rfl
  obtain ⟨ph, px, py, ps, rs, t, u, rfl, hH, hB, hA, hBt, q⟩ := h
  refine ⟨_, (pss_cons (ps_set (i := 3) sc_law_behind.nd rfl (Or.inl rfl) (pe_lst pa_nil))
    (pss_cons (ps_for PassesOwn.never rfl (pi_range1 rfl T.n_range (pa_cons pe_int pa_nil)) (pg_name (i := 4) sc_law_behind.nd rfl (Or.inr rfl)) (pss_one (ps_set (i := 3) sc_law_behind.nd rfl (Or.inl rfl) (pe_op op_cat (pv 3) (pe_comp (Block.of (out := defScope s_law_behind) (N := n_law_behind) (x := "y") (frees := ["heads", "x", "xs", "ys"]) (ix := [0, 4, 1, 2]) (by decide +kernel)) rfl (pi_range1 rfl T.n_range (pa_cons pe_int pa_nil)) (fun _ _ _ _ => pts_one (pt_cmpR op_ne (pe_cmpR (op_inDK (K := K) (n := 1) rfl hr (by decide)) (pe_tup (pa_cons (pv 2) (pa_cons (pv 0) pa_nil))) (pv 1) rfl) (pe_and (pe_cmpR (op_in_k (K := K) rfl) (pv 2) (pv 3) rfl) (pe_one (pe_cmpR (op_in_k (K := K) rfl) (pv 0) (pv 4) rfl))) (nomark _))) (fun _ _ _ _ => (pe_tup (pa_cons (pv 2) (pa_cons (pv 0) pa_nil)))))))))
    (pss_one (ps_ret (pv 3))))), ?_⟩
  rw [show start n_law_behind [V.ref ph, V.ref px, V.ref py] = [some (V.ref ph), some (V.ref px), some (V.ref py), none, none] from rfl]
  refine seq_of ⟨by decide, fun p hp => ?_⟩
  dsimp only [gName]
  refine seq_of (rng1_of (ev_cons ev_c ev_nil) (by decide) (by decide) ?_)
  have two : ∀ a b : V, ([a, b] : List V).length ≤ sizeLine := fun a b => by show 2 ≤ sizeLine; decide
  let pr : Nat × Nat → Bool := fun p => decide (p ∈ ps) != (decide (p.1 ∈ t) && decide (p.2 ∈ u))
  refine for_range (fun i σ H' => ∃ pb bs v, Same H H' ∧ H pb = none ∧ H' pb = some (.lst (bs.map V.ref)) ∧ PL H' (((List.range i).flatMap fun x => (List.range 16).map fun y => (x, y)).filter pr) bs ∧ bs.length ≤ 16 * i ∧ σ = [some (V.ref ph), some (V.ref px), some (V.ref py), some (V.ref pb), v])
    ⟨p, [], none, same_new hp _, hp, upd_same, .nil, by simp, rfl⟩ ?_ ?_
  · rintro i σ H' hi ⟨pb, bs, v, sm, npb, hpb, hbs, lbs, rfl⟩
    have hi : i < 16 := hi
    dsimp only [gName]
    refine asgO_of (op_of (ev_var rfl) (comp_range_tif (lo := 0) (n := 16) (fun y => pr (i, y)) (fun y => [.int (i : Int), .int (y : Int)]) (fun R rr => ?_) (by decide) (fun y H2 R hy s2 rr => ?_) (fun y H2 R hy _ s2 rr => ?_) (fun acc cs H2 hacc s2 hacc2 hcs => ?_)))
    · exact rng1_of (ev_cons ev_c ev_nil) (by decide) (by decide) rr
    · have sm2 := sm.trans s2
      refine opO_of (opO_of (tup_of (ev_cons (ev_var rfl) (ev_cons (ev_var rfl) ev_nil)) (two _ _) fun z hz => ⟨_, rfl, in_board (p := (i, y)) (.inl (.inl (by rw [upd_same]; simp))) ((sm2.trans (same_new hz _)).seq hH) (hB.same (sm2.trans (same_new hz _))) ?_⟩))
      have s3 := sm2.trans (same_new hz (.tup [V.int (0 + (i : Int)), V.int (0 + (y : Int))]))
      refine ev_andV (ev_inN (n := i) (xs := t) (fun Q q => ev_var rfl Q (by simpa using q)) (ev_var rfl) (s3.seq hA)) (fun _ => ev_inN (n := y) (xs := u) (fun Q q => ev_var rfl Q (by simpa using q)) (ev_var rfl) (s3.seq hBt)) _ ?_
      refine ⟨rfl, _, rfl, ?_⟩
      have : (!decide (V.bl (decide ((i, y) ∈ ps) != false) = V.bl (decide (i ∈ t) && decide (y ∈ u)))) = pr (i, y) := by
        show _ = (decide ((i, y) ∈ ps) != (decide (i ∈ t) && decide (y ∈ u)))
        cases decide ((i, y) ∈ ps) <;> cases (decide (i ∈ t) && decide (y ∈ u)) <;> simp
      rw [this]
      exact rr _ (same_new hz _)
    · refine tup_of (ev_cons (ev_var rfl) (ev_cons (ev_var rfl) ev_nil)) (two _ _) fun z hz => ?_
      have := rr z hz
      simpa using this
    · have lc : cs.length ≤ 16 := by
        rw [← Paired.length hcs]
        exact Nat.le_trans (List.length_filter_le _ _) (by simp)
      refine ⟨pb, acc, _, _, rfl, rfl, s2 _ _ hpb, hacc2, by rw [List.length_map, List.length_map]; exact Nat.le_of_lt (small1000 (by omega)), fun p7 hp7 => ?_⟩
      have s7 := same_new hp7 (.lst (bs.map V.ref ++ cs.map V.ref))
      refine ⟨p7, bs ++ cs, _, (sm.trans s2).trans s7, (sm.trans s2).free hp7, by rw [upd_same, List.map_append], ?_, by rw [List.length_append]; omega, rfl⟩
      rw [List.range_succ (n := i), List.flatMap_append, List.filter_append]
      refine paired_app ((hbs.same s2).same s7) ?_
      have e : List.filter pr (List.flatMap (fun x => List.map (fun y => (x, y)) (List.range 16)) [i]) = ((List.range 16).filter fun y => pr (i, y)).map fun y => (i, y) := by
        rw [List.flatMap_singleton, List.filter_map]
        rfl
      rw [e]
      refine paired_of (by rw [List.length_map]; exact Paired.length hcs) fun k x y hx hy => ?_
      obtain ⟨yy, h1, h2⟩ := paired_get hcs hy
      rw [List.getElem?_map, h1] at hx
      cases hx
      exact s7 _ _ h2
  · rintro σ H' ⟨pb, bs, v, sm, npb, hpb, hbs, lbs, rfl⟩
    dsimp only
    exact ret_of (ev_var rfl) (q _ pb bs sm npb hpb hbs)
end
abbrev s_law_refused : Stmt := top 23
abbrev n_law_refused : List Str := ["rules", "heads", "xs", "ys", "e"]
abbrev p_law_refused : List Str := ["rules", "heads", "xs", "ys"]
theorem sc_law_refused : FnScope n_law_refused p_law_refused (defScope s_law_refused) := ⟨rfl, rfl, rfl, by decide +kernel, rfl, by decide +kernel, by decide +kernel⟩
structure ErrF (K : PySem.W.Frag) (mg : Str → Option Value) (cC cB cU cT : Addr) : Prop where
  r_NoTurn : ErrC K mg "NoTurn" cT
  g_CoinError : GRef mg "CoinError" cC
  g_NoBoard : GRef mg "NoBoard" cB
  g_NoRule : GRef mg "NoRule" cU
  g_NoTurn : GRef mg "NoTurn" cT
  x_NoTurn : ExcCls K cT
  m_CoinError : PySem.W.exmOne K (.ref cT) (.ref cC) = some true
  k_NoBoard : PySem.W.kitOne K (.ref cT) (.ref cB) = some false
  k_NoRule : PySem.W.kitOne K (.ref cT) (.ref cU) = some false
  k_NoTurn : PySem.W.kitOne K (.ref cT) (.ref cT) = some true
  k_ValueError : PySem.W.kitOne K (.ref cT) (.type "ValueError") = some true
structure TxE (K : PySem.W.Frag) (mg : Str → Option Value) (cC cB cU cT : Addr) : Prop extends ErrF K mg cC cB cU cT where
  n_isinstance : mg "isinstance" = none
  n_list : mg "list" = none
  n_ValueError : mg "ValueError" = none
theorem bt_ValueError : bootBuiltins "ValueError" = some (.type "ValueError") := by decide +kernel
def spRefused11 (K : PySem.W.Frag) : Sp := fun vs H Q _ => ∃ (pl px py ph pxs pys : Addr) (rx ry : Row.Rule) (ps : List (Nat × Nat)) (rs : List Addr) (ts us : List Int), vs = [.ref pl, .ref ph, .ref pxs, .ref pys] ∧ SqL K H pl [.ref px, .ref py] ∧ SqT K H px (ruleV rx) ∧ SqT K H py (ruleV ry) ∧ Row.Good rx ∧ Row.Good ry ∧ SqL K H ph (rs.map V.ref) ∧ BL K H ps rs ∧ Row.IsBoard ps ∧ SqL K H pxs (ts.map V.int) ∧ SqL K H pys (us.map V.int) ∧ bletB rx ry ps ts us = false ∧ ∀ H', Q (.bl true) H'
section
variable {P : Program} {w : World} {K : PySem.W.Frag} {mg : Str → Option Value} {base : Heap} {cC cB cU cT : Addr}
theorem isx {H : Hp} {Q : VK} {a C : Addr} {a0 x1 u : Value} {c : V} {b : Bool} (ha : H a = some (excO a C a0 x1)) (Z : ExcCls K C) (hc : asked c = some u) (hb : PySem.W.kitOne K (.ref C) u = some b) (q : Q (.bl b) H) : rIsx K [.ref a, c] H Q :=
  ⟨a, C, a0, x1, c, u, b, rfl, ha, Z, hc, hb, q⟩
structure CnRf (P : Program) (w : World) (K : PySem.W.Frag) (mg : Str → Option Value) (base : Heap) (cT : Addr) : Prop where
  board_after : CalleeX P w K mg base "board_after" 20 p_board_after (spBAfterX K cT)
set_option pp.deepTerms true in
theorem ok_refused (D : HasDef K mg "_law_refused" s_law_refused) (T : TxE K mg cC cB cU cT) (C : CnRf P w K mg base cT) : Callee P w K mg base "_law_refused" 21 p_law_refused (spRefused11 K) := by
  refine D.ok sc_law_refused (fun _ _ _ _ _ _ us hl => match us, hl with | [_, _, _, _], _ => rfl) (fun vs H Q E h => ?_) (fun f cdv A outer s H vs Q E hr h => ?_)
  · obtain ⟨pl, px, py, ph, pxs, pys, rx, ry, ps, rs, ts, us, rfl, _⟩ := h
    rfl
  obtain ⟨pl, px, py, ph, pxs, pys, rx, ry, ps, rs, ts, us, rfl, hL, hX, hY, gx, gy, hH, hB, hb, hT, hU, hno, q⟩ := h
  refine ⟨_, (pss_cons (ps_try (i := 4) rfl rfl sc_law_refused.nd rfl rfl T.g_CoinError rfl (fun _ _ _ ht => (pss_one (ps_expr (pe_callX C.board_after ht hr (by omega) rfl (pa_cons (pe_ix (ix_listK (K := K) rfl) (pv 0) pe_int (fun _ _ => rfl)) (pa_cons (pe_ix (ix_listK (K := K) rfl) (pv 0) pe_int (fun _ _ => rfl)) (pa_cons (pe_callTy (call_listK (K := K) rfl) rfl T.n_list bt_list (pa_cons (pv 1) pa_nil)) (pa_cons (pe_callTy (call_listK (K := K) rfl) rfl T.n_list bt_list (pa_cons (pv 2) pa_nil)) (pa_cons (pe_callTy (call_listK (K := K) rfl) rfl T.n_list bt_list (pa_cons (pv 3) pa_nil)) pa_nil))))))))) (fun _ => (pss_cons (ps_if (PW.pt (pw_or (pt_val (pe_callB call_isx rfl T.n_isinstance bt_isinstance (pa_cons (pv 4) (pa_cons (pe_globR T.g_NoBoard) pa_nil)))) (pw_or1 (pt_val (pe_callB call_isx rfl T.n_isinstance bt_isinstance (pa_cons (pv 4) (pa_cons (pe_globR T.g_NoRule) pa_nil))))))) (pss_one (ps_ret pe_bl)) pss_nil)
    (pss_one (ps_ret (pe_and (pe_callB call_isx rfl T.n_isinstance bt_isinstance (pa_cons (pv 4) (pa_cons (pe_globR T.g_NoTurn) pa_nil))) (pe_one (pe_callB call_isx rfl T.n_isinstance bt_isinstance (pa_cons (pv 4) (pa_cons (pe_ty T.n_ValueError bt_ValueError) pa_nil))))))))))
    (pss_one (ps_ret pe_bl))), ?_⟩
  rw [show start n_law_refused [V.ref pl, V.ref ph, V.ref pxs, V.ref pys] = [some (V.ref pl), some (V.ref ph), some (V.ref pxs), some (V.ref pys), none] from rfl]
  refine seq_of ⟨_, rfl, pl, _, _, _, rfl, rfl, hL, rfl, ?_⟩
  refine ⟨_, rfl, pl, _, _, _, rfl, rfl, hL, rfl, ?_⟩
  refine ⟨_, rfl, ph, _, rfl, .inl hH, fun p1 hp1 => ?_⟩
  have s1 := same_new hp1 (.lst (rs.map V.ref))
  refine ⟨_, rfl, pxs, _, rfl, .inl (s1.seq hT), fun p2 hp2 => ?_⟩
  have s2 := s1.new (o := .lst (ts.map V.int)) hp2
  refine ⟨_, rfl, pys, _, rfl, .inl (s2.seq hU), fun p3 hp3 => ?_⟩
  have s3 := s2.new (o := .lst (us.map V.int)) hp3
  refine ⟨px, py, p1, p2, p3, rx, ry, ps, rs, ts, us, rfl, s3.tup hX, s3.tup hY, gx, gy, .of (same_new hp3 _ _ _ (same_new hp2 _ _ _ upd_same)), hB.same s3, hb, .of (same_new hp3 _ _ _ upd_same), .of upd_same, hno, fun H4 s4 => ⟨cT, rfl, T.m_CoinError, fun z z0 z1 hz => ?_⟩⟩
  have go : ∀ c u b, asked c = some u → PySem.W.kitOne K (.ref cT) u = some b → EvE (tCB (rIsx K) (tCons (tVar 4) (tCons (tC c) tNil))) [none, none, none, none, some (V.ref z)] (upd H4 z (excO z cT z0 z1)) (.bl b) := fun c u b hc hb Q q => ⟨_, rfl, isx upd_same T.x_NoTurn hc hb q⟩
  refine seq_of (ifS_of (ev_or (ev_tB (go _ _ false rfl T.k_NoBoard)) fun _ => ev_tB (go _ _ false rfl T.k_NoRule)) (fun c => absurd c (by decide)) fun _ => next_of ?_)
  refine ret_of (ev_andV (go _ _ true rfl T.k_NoTurn) fun _ => go _ _ true rfl T.k_ValueError) ?_
  exact q _
end
abbrev s_law : Stmt := top 26
abbrev n_law : List Str := ["script", "rules", "first", "lines", "heads", "xs", "ys", "spoilt", "due", "board", "found", "told_xs", "told_ys"]
abbrev p_law : List Str := ["script"]
theorem sc_law : FnScope n_law p_law (defScope s_law) := ⟨rfl, rfl, rfl, by decide +kernel, rfl, by decide +kernel, by decide +kernel⟩
structure Facts (K : PySem.W.Frag) (mg : Str → Option Value) : Prop where
  d_check_rule : HasDef K mg "check_rule" s_check_rule
  d_check_board_place : HasDef K mg "check_board_place" s_check_board_place
  d_check_board : HasDef K mg "check_board" s_check_board
  d_rises : HasDef K mg "rises" s_rises
  d_fits : HasDef K mg "fits" s_fits
  d_board_allows : HasDef K mg "board_allows" s_board_allows
  d_board_after : HasDef K mg "board_after" s_board_after
  d_law_cell_at : HasDef K mg "_law_cell_at" s_law_cell_at
  d_law_rule : HasDef K mg "_law_rule" s_law_rule
  d_law_board : HasDef K mg "_law_board" s_law_board
  d_law_places : HasDef K mg "_law_places" s_law_places
  d_law_lets : HasDef K mg "_law_lets" s_law_lets
  d_law_is_board : HasDef K mg "_law_is_board" s_law_is_board
  d_law_refused : HasDef K mg "_law_refused" s_law_refused
  d_law_spoilt : HasDef K mg "_law_spoilt" s_law_spoilt
  d_law_behind : HasDef K mg "_law_behind" s_law_behind
  n_len : mg "len" = none
  n_sorted : mg "sorted" = none
  n_set : mg "set" = none
  n_range : mg "range" = none
  n_isinstance : mg "isinstance" = none
  n_list : mg "list" = none
  n_tuple : mg "tuple" = none
  n_int : mg "int" = none
  n_bool : mg "bool" = none
  GREATEST_BOARD_PLACE : GInt mg "GREATEST_BOARD_PLACE" 15
structure Dics (K : PySem.W.Frag) (w : World) (mg : Str → Option Value) : Prop where
  GREATEST_K : GDic K w.params mg "GREATEST_K" [("most", .int 3), ("just", .int 3), ("run", .int 40)]
structure Cl (P : Program) (w : World) (K : PySem.W.Frag) (mg : Str → Option Value) (base : Heap) : Prop where
  board_allows : Callee P w K mg base "board_allows" 20 p_board_allows (spBAllows K)
  board_after : Callee P w K mg base "board_after" 20 p_board_after (spBAfterC K)
  law_cell_at : Callee P w K mg base "_law_cell_at" 1 p_law_cell_at (spCell K)
  law_rule : Callee P w K mg base "_law_rule" 1 p_law_rule (spRule 3 40)
  law_board : Callee P w K mg base "_law_board" 1 p_law_board spBoard11
  law_places : Callee P w K mg base "_law_places" 1 p_law_places spPlaces11
  law_spoilt : Callee P w K mg base "_law_spoilt" 1 p_law_spoilt spSpoilt11
  law_lets : Callee P w K mg base "_law_lets" 1 p_law_lets (spLets11 K)
  law_refused : Callee P w K mg base "_law_refused" 21 p_law_refused (spRefused11 K)
  law_is_board : Callee P w K mg base "_law_is_board" 1 p_law_is_board spIsBoard
  law_behind : Callee P w K mg base "_law_behind" 1 p_law_behind (spBehind11 K)
theorem behind16_len (ps : List (Nat × Nat)) (t : List Nat × List Nat) : (Row.behind2 16 ps t).length ≤ 1000 := by
  unfold Row.behind2
  exact Nat.le_trans (List.length_filter_le _ _) (by decide)
theorem ni_of_fits {r : Row.Rule} {ts : List Int} (h : fitsB 15 r ts = true) : ts = ni (ts.map Int.toNat) := by
  have := (fits_last h).2.1
  unfold ni
  rw [List.map_map]
  refine (List.map_id ts).symm.trans (List.map_congr_left fun a ha => ?_)
  have := this a ha
  show a = ((a.toNat : Nat) : Int)
  omega
section
variable {P : Program} {w : World} {K : PySem.W.Frag} {mg : Str → Option Value} {base : Heap}
set_option pp.deepTerms true in
theorem ok_law {f : Addr} {fd : FuncData} (F : Fun K "law" "law" s_law f fd) (T : Facts K mg) (C : Cl P w K mg base) : FnOk P w K mg base CX0 22 f fd ["script"] (spLaw K) := by
  refine F.ok sc_law (fun vs H Q E h => ?_) (fun cdv A outer s H vs Q E hr h => ?_)
  · obtain ⟨a, ns, rfl, _⟩ := h
    rfl
  obtain ⟨a, ns, rfl, hS, h63, q⟩ := h
  refine ⟨_, (pss_cons (ps_set (i := 1) sc_law.nd rfl (Or.inl rfl) (pe_lst (pa_cons (pe_callC C.law_rule hr (by omega) rfl (pa_cons (pe_callC C.law_cell_at hr (by omega) rfl (pa_cons (pv 0) (pa_cons pe_int pa_nil))) pa_nil)) (pa_cons (pe_callC C.law_rule hr (by omega) rfl (pa_cons (pe_callC C.law_cell_at hr (by omega) rfl (pa_cons (pv 0) (pa_cons pe_int pa_nil))) pa_nil)) pa_nil))))
    (pss_cons (ps_set (i := 2) sc_law.nd rfl (Or.inl rfl) (pe_op op_mod (pe_callC C.law_cell_at hr (by omega) rfl (pa_cons (pv 0) (pa_cons pe_int pa_nil))) pe_int))
    (pss_cons (ps_set (i := 3) sc_law.nd rfl (Or.inl rfl) (pe_lst pa_nil))
    (pss_cons (ps_if (pt_cmpR op_eq (pe_op op_mod (pe_op op_fdiv (pe_callC C.law_cell_at hr (by omega) rfl (pa_cons (pv 0) (pa_cons pe_int pa_nil))) pe_int) pe_int) pe_int (nomark _)) (pss_one (ps_set (i := 3) sc_law.nd rfl (Or.inl rfl) (pe_lst (pa_cons (pe_op op_mod (pe_callC C.law_cell_at hr (by omega) rfl (pa_cons (pv 0) (pa_cons pe_int pa_nil))) pe_int) (pa_cons (pe_op op_mod (pe_callC C.law_cell_at hr (by omega) rfl (pa_cons (pv 0) (pa_cons pe_int pa_nil))) pe_int) pa_nil))))) pss_nil)
    (pss_cons (ps_set (i := 4) sc_law.nd rfl (Or.inl rfl) (pe_callC C.law_board hr (by omega) rfl (pa_cons (pe_callC C.law_cell_at hr (by omega) rfl (pa_cons (pv 0) (pa_cons pe_int pa_nil))) (pa_cons (pv 2) (pa_cons (pv 3) pa_nil)))))
    (pss_cons (ps_set (i := 5) sc_law.nd rfl (Or.inl rfl) (pe_callC C.law_places hr (by omega) rfl (pa_cons (pe_callC C.law_cell_at hr (by omega) rfl (pa_cons (pv 0) (pa_cons pe_int pa_nil))) (pa_cons (pe_callC C.law_cell_at hr (by omega) rfl (pa_cons (pv 0) (pa_cons pe_int pa_nil))) (pa_cons (pe_callC C.law_cell_at hr (by omega) rfl (pa_cons (pv 0) (pa_cons pe_int pa_nil))) (pa_cons (pv 2) pa_nil))))))
    (pss_cons (ps_set (i := 6) sc_law.nd rfl (Or.inl rfl) (pe_callC C.law_places hr (by omega) rfl (pa_cons (pe_callC C.law_cell_at hr (by omega) rfl (pa_cons (pv 0) (pa_cons pe_int pa_nil))) (pa_cons (pe_callC C.law_cell_at hr (by omega) rfl (pa_cons (pv 0) (pa_cons pe_int pa_nil))) (pa_cons (pe_callC C.law_cell_at hr (by omega) rfl (pa_cons (pv 0) (pa_cons pe_int pa_nil))) (pa_cons (pv 2) pa_nil))))))
    (pss_cons (ps_if (pt_cmpR op_eq (pe_op op_mod (pe_callC C.law_cell_at hr (by omega) rfl (pa_cons (pv 0) (pa_cons pe_int pa_nil))) pe_int) pe_int (nomark _)) (pss_cons (ps_set (i := 7) sc_law.nd rfl (Or.inl rfl) (pe_callC C.law_spoilt hr (by omega) rfl (pa_cons (pv 6) (pa_cons (pv 5) (pa_cons (pe_op op_mod (pe_callC C.law_cell_at hr (by omega) rfl (pa_cons (pv 0) (pa_cons pe_int pa_nil))) pe_int) pa_nil)))))
    (pss_cons (ps_set (i := 5) sc_law.nd rfl (Or.inl rfl) (pe_ix ix_tup (pv 7) pe_int (fun _ _ => rfl)))
    (pss_one (ps_set (i := 6) sc_law.nd rfl (Or.inl rfl) (pe_ix ix_tup (pv 7) pe_int (fun _ _ => rfl)))))) (pss_cons (ps_set (i := 7) sc_law.nd rfl (Or.inl rfl) (pe_callC C.law_spoilt hr (by omega) rfl (pa_cons (pv 5) (pa_cons (pv 6) (pa_cons (pe_op op_mod (pe_callC C.law_cell_at hr (by omega) rfl (pa_cons (pv 0) (pa_cons pe_int pa_nil))) pe_int) pa_nil)))))
    (pss_cons (ps_set (i := 5) sc_law.nd rfl (Or.inl rfl) (pe_ix ix_tup (pv 7) pe_int (fun _ _ => rfl)))
    (pss_one (ps_set (i := 6) sc_law.nd rfl (Or.inl rfl) (pe_ix ix_tup (pv 7) pe_int (fun _ _ => rfl)))))))
    (pss_cons (ps_set (i := 8) sc_law.nd rfl (Or.inl rfl) (pe_and (pe_callC C.law_lets hr (by omega) rfl (pa_cons (pe_ix ix_list (pv 1) pe_int (fun _ _ => rfl)) (pa_cons (pv 5) pa_nil))) (pe_and (pe_callC C.law_lets hr (by omega) rfl (pa_cons (pe_ix ix_list (pv 1) pe_int (fun _ _ => rfl)) (pa_cons (pv 6) pa_nil))) (pe_one (pe_cmpR (op_inD (n := 1) hr (by decide)) (pe_tup (pa_cons (pe_ix ix_list (pv 5) (pe_un un_neg pe_int) (fun _ _ => rfl)) (pa_cons (pe_ix ix_list (pv 6) (pe_un un_neg pe_int) (fun _ _ => rfl)) pa_nil))) (pv 4) rfl)))))
    (pss_cons (ps_set (i := 9) sc_law.nd rfl (Or.inl rfl) (pe_callTy call_list_of rfl T.n_list bt_list (pa_cons (pv 4) pa_nil)))
    (pss_cons (ps_set (i := 10) sc_law.nd rfl (Or.inl rfl) (pe_callC C.board_allows hr (by omega) rfl (pa_cons (pe_ix ix_list (pv 1) pe_int (fun _ _ => rfl)) (pa_cons (pe_ix ix_list (pv 1) pe_int (fun _ _ => rfl)) (pa_cons (pv 9) (pa_cons (pe_callTy call_list_of rfl T.n_list bt_list (pa_cons (pv 5) pa_nil)) (pa_cons (pe_callTy call_list_of rfl T.n_list bt_list (pa_cons (pv 6) pa_nil)) pa_nil)))))))
    (pss_cons (ps_if (PW.pt (pw_or (pt_not (pt_val (pe_callB call_isi rfl T.n_isinstance bt_isinstance (pa_cons (pv 10) (pa_cons (pe_ty T.n_bool bt_bool) pa_nil))))) (pw_or (pt_cmpR op_ne (pv 10) (pv 8) (nomark _)) (pw_or1 (pt_cmpR (op_neD (n := 1) hr (by decide)) (pv 9) (pv 4) (nomark _)))))) (pss_one (ps_ret pe_bl)) pss_nil)
    (pss_cons (ps_if (pt_not (pt_val (pv 8))) (pss_one (ps_ret (pe_callC C.law_refused hr (by omega) rfl (pa_cons (pv 1) (pa_cons (pv 4) (pa_cons (pv 5) (pa_cons (pv 6) pa_nil))))))) pss_nil)
    (pss_cons (ps_set (i := 11) sc_law.nd rfl (Or.inl rfl) (pe_callTy call_list_of rfl T.n_list bt_list (pa_cons (pv 5) pa_nil)))
    (pss_cons (ps_set (i := 12) sc_law.nd rfl (Or.inl rfl) (pe_callTy call_list_of rfl T.n_list bt_list (pa_cons (pv 6) pa_nil)))
    (pss_cons (ps_set (i := 10) sc_law.nd rfl (Or.inl rfl) (pe_callC C.board_after hr (by omega) rfl (pa_cons (pe_ix ix_list (pv 1) pe_int (fun _ _ => rfl)) (pa_cons (pe_ix ix_list (pv 1) pe_int (fun _ _ => rfl)) (pa_cons (pv 9) (pa_cons (pv 11) (pa_cons (pv 12) pa_nil)))))))
    (pss_cons (ps_if (PW.pt (pw_or (pt_cmpR (op_neD (n := 1) hr (by decide)) (pv 9) (pv 4) (nomark _)) (pw_or (pt_cmpR (op_neD (n := 0) hr (by decide)) (pv 11) (pv 5) (nomark _)) (pw_or1 (pt_cmpR (op_neD (n := 0) hr (by decide)) (pv 12) (pv 6) (nomark _)))))) (pss_one (ps_ret pe_bl)) pss_nil)
    (pss_one (ps_ret (pe_callC C.law_is_board hr (by omega) rfl (pa_cons (pv 10) (pa_cons (pe_callC C.law_behind hr (by omega) rfl (pa_cons (pv 4) (pa_cons (pv 5) (pa_cons (pv 6) pa_nil)))) pa_nil)))))))))))))))))))))), ?_⟩
  rw [show start n_law [V.ref a] = [some (V.ref a), none, none, none, none, none, none, none, none, none, none, none, none] from rfl]
  have two : ∀ a b : V, ([a, b] : List V).length ≤ sizeLine := fun a b => by show 2 ≤ sizeLine; decide
  have hgx := ruleOf_good (c := cell ns 0) (most := 3) (run := 40) (by decide) (by decide) (by decide) (by decide)
  have hgy := ruleOf_good (c := cell ns 1) (most := 3) (run := 40) (by decide) (by decide) (by decide) (by decide)
  refine seq_of (ev_cell 0 rfl hS _ ⟨cell ns 0, rfl, fun Hx px sx hx nx => ev_cell 1 rfl (sx.seq hS) _ ⟨cell ns 1, rfl, fun Hy py sy hy ny => ⟨two _ _, fun pl hpl => ?_⟩⟩⟩)
  dsimp only [gName]
  generalize ruleOf (cell ns 0) 3 40 = rx at hx hgx
  generalize ruleOf (cell ns 1) 3 40 = ry at hy hgy
  have s1 := (sx.trans sy).trans (same_new hpl (.lst [V.ref px, V.ref py]))
  have hRx : SqT K (upd Hy pl (.lst [V.ref px, V.ref py])) px (ruleV rx) := .inl (.inl (by rw [upd_ne (ne_of_none (sy _ _ hx) hpl)]; exact sy _ _ hx))
  have hRy : SqT K (upd Hy pl (.lst [V.ref px, V.ref py])) py (ruleV ry) := .inl (.inl (by rw [upd_ne (ne_of_none hy hpl)]; exact hy))
  have hL : SqL K (upd Hy pl (.lst [V.ref px, V.ref py])) pl [V.ref px, V.ref py] := .of upd_same
  have hS1 := s1.seq hS
  generalize upd Hy pl (.lst [V.ref px, V.ref py]) = H1 at s1 hRx hRy hL hS1
  refine seq_of (asg_of (ev_i (ev_cell 3 rfl hS1) ev_c (by decide)) ?_)
  dsimp only
  obtain ⟨fi, hfi⟩ : ∃ fi : Nat, cell ns 3 % 13 = (fi : Int) := ⟨(cell ns 3 % 13).toNat, by omega⟩
  have f12 : fi ≤ 12 := by omega
  rw [hfi]
  refine seq_of ⟨by decide, fun p0 hp0 => ?_⟩
  dsimp only [gName]
  have s2 := same_new hp0 (.lst [])
  have h00 : upd H1 p0 (.lst []) p0 = some (.lst (nl [])) := upd_same
  generalize upd H1 p0 (.lst []) = H2 at s2 h00
  have hS2 := s2.seq hS1
  refine cut (fun σ H' => ∃ (pn : Addr) (ls : List Nat), σ = [some (V.ref a), some (V.ref pl), some (V.int (fi : Int)), some (V.ref pn), none, none, none, none, none, none, none, none, none] ∧ Same H1 H' ∧ H' pn = some (.lst (nl ls)) ∧ ls.length ≤ 2 ∧ ∀ l ∈ ls, l < 16) (fun X hX => ?_) ?_
  · refine ifS_of (ev_test (ev_eqI (ev_i (ev_i (ev_cell 3 rfl hS2) ev_c (by unfold CDiv; decide)) ev_c (by decide)) ev_c)) (fun _ => ?_) (fun _ => next_of (hX _ _ ⟨p0, [], rfl, s2, h00, by simp, by simp⟩))
    obtain ⟨l1, e1⟩ : ∃ l : Nat, cell ns 11 % 16 = (l : Int) := ⟨(cell ns 11 % 16).toNat, by omega⟩
    obtain ⟨l2, e2⟩ : ∃ l : Nat, cell ns 12 % 16 = (l : Int) := ⟨(cell ns 12 % 16).toNat, by omega⟩
    refine asgO_of (lst_of (ev_cons (ev_i (ev_cell 11 rfl hS2) ev_c (by decide)) (ev_cons (ev_i (ev_cell 12 rfl hS2) ev_c (by decide)) ev_nil)) (two _ _) fun p5 hp5 => hX _ _ ⟨p5, [l1, l2], rfl, s2.new hp5, ?_, by simp, fun l hl => ?_⟩)
    · rw [upd_same, e1, e2]
      rfl
    · rcases List.mem_cons.mp hl with rfl | hl
      · omega
      · have : l = l2 := by simpa using hl
        omega
  rintro σ H3 ⟨pn, ls, rfl, sm3, hn3, ll3, lt3⟩
  have hS3 := sm3.seq hS1
  refine seq_of (ev_cell 2 rfl hS3 _ ⟨_, rfl, _, rfl, cell ns 2, fi, pn, ls, rfl, f12, hn3, ll3, lt3, fun H4 ph ps rs s4 n4 hh4 hp4 hb len48 => ?_⟩)
  dsimp only [gName]
  have hS4 := s4.seq hS3
  refine seq_of (ev_cell 4 rfl hS4 _ (ev_cell 5 rfl hS4 _ (ev_cell 6 rfl hS4 _ ⟨_, rfl, cell ns 4, cell ns 5, cell ns 6, fi, rfl, fun H5 p5 t5 s5 n5 hx5 ne5 l5 => ?_⟩)))
  dsimp only [gName]
  have hS5 := s5.seq hS4
  refine seq_of (ev_cell 7 rfl hS5 _ (ev_cell 8 rfl hS5 _ (ev_cell 9 rfl hS5 _ ⟨_, rfl, cell ns 7, cell ns 8, cell ns 9, fi, rfl, fun H6 p6 u6 s6 n6 hx6 ne6 l6 => ?_⟩)))
  dsimp only [gName]
  have hS6 := s6.seq hS5
  have hx5' := s6 _ _ hx5
  have s16 := ((sm3.trans s4).trans s5).trans s6
  have s46 := s5.trans s6
  have hh6 := s46 _ _ hh4
  have hp6 := hp4.same s46
  refine cut (fun σ H' => ∃ (z pX pY : Addr) (ts us : List Int), σ = [some (V.ref a), some (V.ref pl), some (V.int (fi : Int)), some (V.ref pn), some (V.ref ph), some (V.ref pX), some (V.ref pY), some (V.ref z), none, none, none, none, none] ∧ Same H6 H' ∧ H' pX = some (.lst (ts.map V.int)) ∧ H' pY = some (.lst (us.map V.int)) ∧ ts.length * us.length ≤ 12 ∧ ts.length ≤ 4 ∧ us.length ≤ 4) (fun X hX => ?_) ?_
  · refine ifS_of (ev_test (ev_eqI (ev_i (ev_cell 13 rfl hS6) ev_c (by decide)) ev_c)) (fun _ => ?_) (fun _ => ?_)
    · refine seq_of ⟨_, rfl, _, rfl, ev_i (ev_cell 10 rfl hS6) ev_c (by decide) _ ⟨p6, p5, u6, t5, _, rfl, hx6, hx5', ne6, l6, l5, fun H7 z aa bb us ts s7 hz ha hb' la lb => ?_⟩⟩
      dsimp only [gName]
      refine seq_of (asg_of (ev_ixT (ev_var rfl) ev_c (.inl (.inl hz)) rfl) ?_)
      dsimp only
      refine asg_of (ev_ixT (ev_var rfl) ev_c (.inl (.inl hz)) rfl) (hX _ _ ⟨z, bb, aa, ts, us, rfl, s7, hb', ha, ?_, by omega, by omega⟩)
      exact Nat.le_trans (Nat.mul_le_mul lb la) (by decide)
    · refine seq_of ⟨_, rfl, _, rfl, ev_i (ev_cell 10 rfl hS6) ev_c (by decide) _ ⟨p5, p6, t5, u6, _, rfl, hx5', hx6, ne5, l5, l6, fun H7 z aa bb ts us s7 hz ha hb' la lb => ?_⟩⟩
      dsimp only [gName]
      refine seq_of (asg_of (ev_ixT (ev_var rfl) ev_c (.inl (.inl hz)) rfl) ?_)
      dsimp only
      refine asg_of (ev_ixT (ev_var rfl) ev_c (.inl (.inl hz)) rfl) (hX _ _ ⟨z, aa, bb, ts, us, rfl, s7, ha, hb', ?_, by omega, by omega⟩)
      exact Nat.le_trans (Nat.mul_le_mul la lb) (by decide)
  rintro σ H7 ⟨z, pX, pY, ts, us, rfl, s7, hX7, hY7, l12, lts, lus⟩
  have s17 := s16.trans s7
  have hRx7 := s17.tup hRx
  have hRy7 := s17.tup hRy
  have hL7 := s17.seq hL
  have hh7 := s7 _ _ hh6
  have hp7 := hp6.same s7
  refine seq_of (asgG_of (v := .bl (bletB rx ry ps ts us)) (evg_andV (a := fitsB 15 rx ts) (b := fitsB 15 ry us && decide (((lastI ts).toNat, (lastI us).toNat) ∈ ps)) (evg_e (ev_call (ev_cons (ev_ixL (ev_var rfl) ev_c hL7 rfl) (ev_cons (ev_var rfl) ev_nil)) fun Q q => ⟨px, pX, rx, ts, rfl, hRx7, hgx, .of hX7, by omega, q⟩)) fun fx H' s' => evg_andV (a := fitsB 15 ry us) (b := decide (((lastI ts).toNat, (lastI us).toNat) ∈ ps)) (evg_e (ev_call (ev_cons (ev_ixL (ev_var rfl) ev_c (s'.seq hL7) rfl) (ev_cons (ev_var rfl) ev_nil)) fun Q q => ⟨py, pY, ry, us, rfl, s'.tup hRy7, hgy, .of (s' _ _ hY7), by omega, q⟩)) fun fy H'' s'' => fun Q q => ?_) fun H8 s8 => ?_)
  · obtain ⟨nx, _, a1, a2⟩ := fits_last fx
    obtain ⟨ny, _, b1, b2⟩ := fits_last fy
    have s12 := s'.trans s''
    have ex : lastI ts = (((lastI ts).toNat : Nat) : Int) := by omega
    have ey : lastI us = (((lastI us).toNat : Nat) : Int) := by omega
    refine opO_of (tup_of (ev_cons (ev_atEnd (ev_var rfl) (ev_u ev_c) (.of (s12 _ _ hX7)) nx) (ev_cons (ev_atEnd (ev_var rfl) (ev_u ev_c) (.of (s12 _ _ hY7)) ny) ev_nil)) (two _ _) fun z hz => ⟨_, rfl, in_board (p := ((lastI ts).toNat, (lastI us).toNat)) (.inl (.inl (by rw [upd_same]; show _ = some (HO.tup [V.int (((lastI ts).toNat : Nat) : Int), V.int (((lastI us).toNat : Nat) : Int)]); rw [← ex, ← ey]; rfl))) (.of ((s12.trans (same_new hz _)) _ _ hh7)) (hp7.bl.same (s12.trans (same_new hz _))) ?_⟩)
    rw [Bool.bne_false]
    exact q _ (same_new hz _)
  dsimp only
  have hRx8 := s8.tup hRx7
  have hRy8 := s8.tup hRy7
  have hL8 := s8.seq hL7
  have hh8 := s8 _ _ hh7
  have hp8 := hp7.same s8
  have hX8 := s8 _ _ hX7
  have hY8 := s8 _ _ hY7
  refine seq_of ⟨_, rfl, ph, _, rfl, .inl (.of hh8), fun pb hpb => ?_⟩
  dsimp only [gName]
  have s9 := same_new hpb (.lst (rs.map V.ref))
  have h9b : upd H8 pb (.lst (rs.map V.ref)) pb = some (.lst (rs.map V.ref)) := upd_same
  generalize upd H8 pb (.lst (rs.map V.ref)) = H9 at s9 h9b
  refine seq_of (asgO_of (callO_of (argE_of (ev_ixL (ev_var rfl) ev_c (s9.seq hL8) rfl) (argE_of (ev_ixL (ev_var rfl) ev_c (s9.seq hL8) rfl) (argE_of (ev_var rfl) (argO_of (cb_of (ev_cons (ev_var rfl) ev_nil) ⟨pX, _, rfl, .inl (.of (s9 _ _ hX8)), fun q1 hq1 => arg1_of (cb_of (ev_cons (ev_var rfl) ev_nil) ⟨pY, _, rfl, .inl (.of (same_new hq1 _ _ _ (s9 _ _ hY8))), fun q2 hq2 => ?_⟩)⟩)))))))
  have sq := (same_new hq1 (.lst (ts.map V.int))).new (o := .lst (us.map V.int)) hq2
  have s9q := s9.trans sq
  refine ⟨px, py, pb, q1, q2, rx, ry, ps, rs, ts, us, rfl, s9q.tup hRx8, s9q.tup hRy8, hgx, hgy, .of (sq _ _ h9b), (hp8.same s9q).bl, hb, .of (same_new hq2 _ _ _ upd_same), .of upd_same, fun H10 s10 => ?_⟩
  dsimp only
  have t10 := sq.trans s10
  have s8t := s9.trans t10
  have hb10 := t10 _ _ h9b
  have hh10 := s8t _ _ hh8
  have hp10 := hp8.same s8t
  have hX10 := s8t _ _ hX8
  have hY10 := s8t _ _ hY8
  have hRx10 := s8t.tup hRx8
  have hRy10 := s8t.tup hRy8
  have hL10 := s8t.seq hL8
  generalize hdue : bletB rx ry ps ts us = due
  refine seq_of (ifS_of (ev_or (ev_not (ev_tB (ev_isBool (b := due) (ev_cons (ev_var rfl) (ev_cons ev_c ev_nil))))) fun _ => ev_or (ev_test (ev_neB (ev_var rfl) (ev_var rfl))) fun _ => ev_test (ev_neBd (ps := ps) (qs := ps) (ev_var rfl) (ev_var rfl) (.of hb10) hp10.bl (.of hh10) hp10.bl)) (fun c => absurd c (by simp)) fun _ => next_of ?_)
  dsimp only
  cases due with
  | false =>
    refine seq_of (ifS_of (ev_not (ev_tB (ev_var rfl))) (fun _ => ?_) fun c => absurd c (by decide))
    exact ⟨_, rfl, _, rfl, _, rfl, _, rfl, pl, px, py, ph, pX, pY, rx, ry, ps, rs, ts, us, rfl, hL10, hRx10, hRy10, hgx, hgy, .of hh10, hp10.bl, hb, .of hX10, .of hY10, hdue, fun H' => q H'⟩
  | true =>
    refine seq_of (ifS_of (ev_not (ev_tB (ev_var rfl))) (fun c => absurd c (by decide)) fun _ => next_of ?_)
    dsimp only
    obtain ⟨fx, fy, _⟩ : fitsB 15 rx ts = true ∧ fitsB 15 ry us = true ∧ True := by
      have hlet := hdue
      unfold bletB at hlet
      rw [Bool.and_eq_true, Bool.and_eq_true] at hlet
      exact ⟨hlet.1, hlet.2.1, trivial⟩
    obtain ⟨t, rfl⟩ : ∃ t, ts = ni t := ⟨_, ni_of_fits fx⟩
    obtain ⟨u, rfl⟩ : ∃ u, us = ni u := ⟨_, ni_of_fits fy⟩
    rw [← nl_ni] at hX10 hY10
    have lt : (ni t).length = t.length := by unfold ni; simp
    have lu : (ni u).length = u.length := by unfold ni; simp
    rw [lt, lu] at l12
    refine seq_of ⟨_, rfl, pX, _, rfl, .inl (.of hX10), fun p1 hp1 => ?_⟩
    dsimp only [gName]
    have s11 := same_new hp1 (.lst (nl t))
    have h11 : upd H10 p1 (.lst (nl t)) p1 = some (.lst (nl t)) := upd_same
    generalize upd H10 p1 (.lst (nl t)) = H11 at s11 h11
    refine seq_of ⟨_, rfl, pY, _, rfl, .inl (.of (s11 _ _ hY10)), fun p2 hp2 => ?_⟩
    dsimp only [gName]
    have s12 := same_new hp2 (.lst (nl u))
    have h12 : upd H11 p2 (.lst (nl u)) p2 = some (.lst (nl u)) := upd_same
    generalize upd H11 p2 (.lst (nl u)) = H12 at s12 h12
    have s1012 := s11.trans s12
    have h11' := s12 _ _ h11
    refine seq_of (asgO_of (callO_of (argE_of (ev_ixL (ev_var rfl) ev_c (s1012.seq hL10) rfl) (argE_of (ev_ixL (ev_var rfl) ev_c (s1012.seq hL10) rfl) (argE_of (ev_var rfl) (argE_of (ev_var rfl) (argE_of (ev_var rfl) ⟨px, py, pb, p1, p2, rx, ry, ps, rs, t, u, rfl, s1012.tup hRx10, s1012.tup hRy10, hgx, hgy, .of (s1012 _ _ hb10), hp10.same s1012, hb, h11', h12, hdue, by omega, fun H13 pf ss s13 nf hf hpf => ?_⟩)))))))
    dsimp only
    have s1013 := s1012.trans s13
    have hp13 := hp10.same s1013
    refine seq_of (ifS_of (ev_or (ev_test (ev_neBd (ps := ps) (qs := ps) (ev_var rfl) (ev_var rfl) (.of (s1013 _ _ hb10)) hp13.bl (.of (s1013 _ _ hh10)) hp13.bl)) fun _ => ev_or (ev_test (ev_neL (xs := t) (ys := t) (ev_var rfl) (ev_var rfl) (.of (s13 _ _ h11')) (.of (s1013 _ _ hX10)))) fun _ => ev_test (ev_neL (xs := u) (ys := u) (ev_var rfl) (ev_var rfl) (.of (s13 _ _ h12)) (.of (s1013 _ _ hY10)))) (fun c => absurd c (by simp)) fun _ => next_of ?_)
    dsimp only
    exact ⟨_, rfl, _, rfl, _, rfl, _, rfl, ph, pX, pY, ps, rs, t, u, rfl, .of (s1013 _ _ hh10), hp13.bl, .of (s1013 _ _ hX10), .of (s1013 _ _ hY10), fun H14 pd sd s14 nd' hd hpd => ⟨pf, pd, _, ss, sd, rfl, s14 _ _ hf, hpf.same s14, hd, hpd, behind16_len _ _, q _⟩⟩
end
structure TxQ (K : PySem.W.Frag) (mg : Str → Option Value) (cC cB cU cT : Addr) : Prop where
  e : ErrF K mg cC cB cU cT
  n_isinstance : mg "isinstance" = none
  n_ValueError : mg "ValueError" = none
section
variable {P : Program} {w : World} {K : PySem.W.Frag} {mg : Str → Option Value} {base : Heap} {cC cB cU cT : Addr}
theorem all {f : Addr} {fd : FuncData} (D : Facts K mg) (D2 : Dics K w mg) (T : TxQ K mg cC cB cU cT) (F : Fun K "law" "law" s_law f fd) : FnOk P w K mg base CX0 22 f fd ["script"] (spLaw K) := by
  have cr : Callee P w K mg base "check_rule" 1 p_check_rule (spCheckRule K) := ok_checkRule D.d_check_rule ⟨D2.GREATEST_K⟩
  have ri : Callee P w K mg base "rises" 1 p_rises (spRises K) := ok_rises D.d_rises
  have fi : Callee P w K mg base "fits" 2 p_fits (spFits K) := ok_fits D.d_fits ⟨D.n_len⟩ ⟨ri⟩
  have cb : Callee P w K mg base "check_board_place" 1 p_check_board_place spCheckBP := ok_checkBP D.d_check_board_place ⟨D.GREATEST_BOARD_PLACE⟩
  have ck : Callee P w K mg base "check_board" 2 p_check_board (spCheckBoard K) := ok_checkBoard D.d_check_board ⟨cb⟩
  have al : Callee P w K mg base "board_allows" 19 p_board_allows (spBAllows K) := ok_ballows D.d_board_allows ⟨D.GREATEST_BOARD_PLACE⟩ ⟨cr, ck, fi⟩
  have ax : CalleeX P w K mg base "board_after" 20 p_board_after (spBAfterX K cT) := ok_bafterX D.d_board_after ⟨⟨D.n_sorted, D.n_set⟩, T.e.r_NoTurn⟩ ⟨al⟩
  have ac : Callee P w K mg base "board_after" 20 p_board_after (spBAfterC K) := ok_bafterC D.d_board_after ⟨D.n_sorted, D.n_set⟩ ⟨al⟩
  have ce : Callee P w K mg base "_law_cell_at" 1 p_law_cell_at (spCell K) := ok_cell D.d_law_cell_at D.n_len
  exact ok_law F D ⟨al.mono (by decide), ac, ce, ok_rule D.d_law_rule, ok_board D.d_law_board ⟨D.n_range, D.n_sorted⟩, ok_places D.d_law_places ⟨D.n_range⟩, ok_spoilt D.d_law_spoilt ⟨D.n_range, D.n_len⟩, ok_lets D.d_law_lets ⟨D.n_range, D.n_len⟩, ok_refused D.d_law_refused ⟨T.e, D.n_isinstance, D.n_list, T.n_ValueError⟩ ⟨ax⟩, ok_is_board D.d_law_is_board ⟨D.n_isinstance, D.n_list, D.n_int, D.n_bool, D.n_tuple, D.n_len, D.n_range⟩, ok_behind D.d_law_behind ⟨D.n_range⟩⟩
end
end H
open PySem PySem.W PyProof.Rows
set_option maxRecDepth 100000 in
set_option maxHeartbeats 0 in
theorem PySem.Challenge.cw_coinrows_k11_a_board_turned_holds : PySem.Challenge.rw_coinrows_k11_a_board_turned.Holds := by
  w_on; o_law; k_head; (case hw => w_witness2)
  k_fill
  refine L2.law_walk (l := PySem.Challenge.rw_coinrows_k11_a_board_turned) (k := 22) (st := H.s_law) ⟨rfl, by decide, by decide⟩ rfl rfl rfl (fun _ _ _ _ _ _ u => rfl) (fun w h Y => PySem.W.kIn_of Y) ?F
  case F =>
    intro w mg h KX G
    have D : H.Facts (L2.KOf KX) mg := by
      dsimp only [L2.KOf]
      refine' ⟨L2.hasDef KX G ?a1 ?l1 ?c1 ?k1, L2.hasDef KX G ?a2 ?l2 ?c2 ?k2, L2.hasDef KX G ?a3 ?l3 ?c3 ?k3, L2.hasDef KX G ?a4 ?l4 ?c4 ?k4, L2.hasDef KX G ?a5 ?l5 ?c5 ?k5, L2.hasDef KX G ?a6 ?l6 ?c6 ?k6, L2.hasDef KX G ?a7 ?l7 ?c7 ?k7, L2.hasDef KX G ?a8 ?l8 ?c8 ?k8, L2.hasDef KX G ?a9 ?l9 ?c9 ?k9, L2.hasDef KX G ?a10 ?l10 ?c10 ?k10, L2.hasDef KX G ?a11 ?l11 ?c11 ?k11, L2.hasDef KX G ?a12 ?l12 ?c12 ?k12, L2.hasDef KX G ?a13 ?l13 ?c13 ?k13, L2.hasDef KX G ?a14 ?l14 ?c14 ?k14, L2.hasDef KX G ?a15 ?l15 ?c15 ?k15, L2.hasDef KX G ?a16 ?l16 ?c16 ?k16, PySem.W.mg_none_of KX G ?z17, PySem.W.mg_none_of KX G ?z18, PySem.W.mg_none_of KX G ?z19, PySem.W.mg_none_of KX G ?z20, PySem.W.mg_none_of KX G ?z21, PySem.W.mg_none_of KX G ?z22, PySem.W.mg_none_of KX G ?z23, PySem.W.mg_none_of KX G ?z24, PySem.W.mg_none_of KX G ?z25, L2.glob_int KX G ?z26⟩
      (case a1 => k_is); (case l1 => k_is); (case c1 => k_is); (case k1 => k_is)
      (case a2 => k_is); (case l2 => k_is); (case c2 => k_is); (case k2 => k_is)
      (case a3 => k_is); (case l3 => k_is); (case c3 => k_is); (case k3 => k_is)
      (case a4 => k_is); (case l4 => k_is); (case c4 => k_is); (case k4 => k_is)
      (case a5 => k_is); (case l5 => k_is); (case c5 => k_is); (case k5 => k_is)
      (case a6 => k_is); (case l6 => k_is); (case c6 => k_is); (case k6 => k_is)
      (case a7 => k_is); (case l7 => k_is); (case c7 => k_is); (case k7 => k_is)
      (case a8 => k_is); (case l8 => k_is); (case c8 => k_is); (case k8 => k_is)
      (case a9 => k_is); (case l9 => k_is); (case c9 => k_is); (case k9 => k_is)
      (case a10 => k_is); (case l10 => k_is); (case c10 => k_is); (case k10 => k_is)
      (case a11 => k_is); (case l11 => k_is); (case c11 => k_is); (case k11 => k_is)
      (case a12 => k_is); (case l12 => k_is); (case c12 => k_is); (case k12 => k_is)
      (case a13 => k_is); (case l13 => k_is); (case c13 => k_is); (case k13 => k_is)
      (case a14 => k_is); (case l14 => k_is); (case c14 => k_is); (case k14 => k_is)
      (case a15 => k_is); (case l15 => k_is); (case c15 => k_is); (case k15 => k_is)
      (case a16 => k_is); (case l16 => k_is); (case c16 => k_is); (case k16 => k_is)
      (case z17 => k_is)
      (case z18 => k_is)
      (case z19 => k_is)
      (case z20 => k_is)
      (case z21 => k_is)
      (case z22 => k_is)
      (case z23 => k_is)
      (case z24 => k_is)
      (case z25 => k_is)
      (case z26 => k_is)
    have L : L2.HasDef (L2.KOf KX) mg "law" H.s_law := by
      dsimp only [L2.KOf]
      refine' L2.hasDef KX G ?a1 ?l1 ?c1 ?k1
      (case a1 => k_is); (case l1 => k_is); (case c1 => k_is); (case k1 => k_is)
    have D2 : H.Dics (L2.KOf KX) w mg := by
      dsimp only [L2.KOf]
      refine' ⟨L2.glob_dic KX G ?da0 ?dl0 ?dk0 ?ds0 ?dv0⟩
      (case da0 => k_is); (case dl0 => k_is); (case dk0 => k_keys); (case ds0 => decide); (case dv0 => exact (.cons ⟨⟨_, rfl⟩, ⟨_, rfl⟩⟩ (.cons ⟨⟨_, rfl⟩, ⟨_, rfl⟩⟩ (.cons ⟨⟨_, rfl⟩, ⟨_, rfl⟩⟩ .nil))))
    have R : ∃ cC cB cU cT, H.ErrF (L2.KOf KX) mg cC cB cU cT := by
      dsimp only [L2.KOf]
      refine' ⟨_, _, _, _, ⟨⟨PySem.W.mg_of KX G ?e1, ?e2⟩, PySem.W.mg_of KX G ?e3, PySem.W.mg_of KX G ?e4, PySem.W.mg_of KX G ?e5, PySem.W.mg_of KX G ?e6, ⟨?e7, ?e8, ?e9, ?e10, ?e11, ?e12, ?e13, ?e14⟩, ?e15, ?e16, ?e17, ?e18, ?e19⟩⟩
      (case e1 => k_is)
      (case e2 => k_exc)
      (case e3 => k_is)
      (case e4 => k_is)
      (case e5 => k_is)
      (case e6 => k_is)
      (case e7 => k_is)
      (case e8 => k_is)
      (case e9 => k_is)
      (case e10 => k_is)
      (case e11 => k_is)
      (case e12 => k_is)
      (case e13 => k_is)
      (case e14 => k_is)
      (case e15 => kts_exm)
      (case e16 => kit_is)
      (case e17 => kit_is)
      (case e18 => kit_is)
      (case e19 => kit_is)
    obtain ⟨cC, cB, cU, cT, R⟩ := R
    have N1 : mg "isinstance" = none := PySem.W.mg_none_of KX G (by k_is)
    have N2 : mg "ValueError" = none := PySem.W.mg_none_of KX G (by k_is)
    exact ⟨L, fun base f fd F => H.all D D2 ⟨R, N1, N2⟩ F⟩
