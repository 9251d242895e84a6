import PyProof.Rows.All
import Wide.All
import OpenK.AllK
import Wide.FinOn
import Lean
import PyProof.EqAt
import PyProof.EqKinds
import PyProof.TupleCall
import KE.KSortTup
import KE.KItemsList
import PySem.Challenge.RW_gapshelf_k16_whole_the_last_write_decide
set_option Elab.async false
set_option linter.all false
set_option maxRecDepth 100000
namespace L2
open PySem PySem.Spec PyProof.Rows
abbrev Key := Sum Int Str
def keyIs : Key → Value → Bool
  | .inl k, v => Value.isInt k v
  | .inr x, v => Value.isStrOf x v
def keyH (w : World) : Key → Int
  | .inl k => hashInt k
  | .inr x => hashStr w x
theorem keyIs_shape : ∀ {k : Key} {v : Value}, keyIs k v = true → (∃ i t, k = Sum.inl i ∧ v = Value.int i t) ∨ (∃ x t, k = Sum.inr x ∧ v = Value.str x t)
  | .inl i, v, h => by
    obtain ⟨t, e⟩ := Value.isInt_shape (k := i) (v := v) h
    exact .inl ⟨i, t, rfl, e⟩
  | .inr x, v, h => by
    obtain ⟨t, e⟩ := Value.isStrOf_shape (x := x) (v := v) h
    exact .inr ⟨x, t, rfl, e⟩
theorem keyIs_int (i : Int) (t : Tok) : keyIs (.inl i) (.int i t) = true := by simp [keyIs, Value.isInt]
theorem keyIs_str (x : Str) (t : Tok) : keyIs (.inr x) (.str x t) = true := by simp [keyIs, Value.isStrOf]
theorem key_ll (a b : Int) : decide ((Sum.inl a : Key) = Sum.inl b) = (a == b) := by
  by_cases e : a = b
  · subst e; simp
  · have h : ¬ (Sum.inl a : Key) = Sum.inl b := fun q => e (Sum.inl.inj q)
    rw [decide_eq_false h]
    exact (beq_eq_false_iff_ne.mpr e).symm
theorem key_rr (a b : Str) : decide ((Sum.inr a : Key) = Sum.inr b) = decide (a = b) := by
  by_cases e : a = b
  · subst e; simp
  · have h : ¬ (Sum.inr a : Key) = Sum.inr b := fun q => e (Sum.inr.inj q)
    rw [decide_eq_false h, decide_eq_false e]
theorem key_lr (a : Int) (b : Str) : decide ((Sum.inl a : Key) = Sum.inr b) = false := decide_eq_false (fun q => nomatch q)
theorem key_rl (a : Str) (b : Int) : decide ((Sum.inr a : Key) = Sum.inl b) = false := decide_eq_false (fun q => nomatch q)
def mixKind (prog : Program) (w : World) : PySem.KeyKind prog w Key where
  is := keyIs
  hash := keyH w
  inj := fun v a b ha hb => by
    rcases keyIs_shape ha with ⟨i, t, rfl, rfl⟩ | ⟨x, t, rfl, rfl⟩
    · rcases keyIs_shape hb with ⟨j, u, rfl, e⟩ | ⟨y, u, rfl, e⟩
      · injection e with e1 _; rw [e1]
      · exact nomatch e
    · rcases keyIs_shape hb with ⟨j, u, rfl, e⟩ | ⟨y, u, rfl, e⟩
      · exact nomatch e
      · injection e with e1 _; rw [e1]
  byValue := fun k v h => by
    rcases keyIs_shape h with ⟨i, t, rfl, rfl⟩ | ⟨x, t, rfl, rfl⟩ <;> rfl
  pyHash := fun hv h => by
    rcases keyIs_shape hv with ⟨i, t, rfl, rfl⟩ | ⟨x, t, rfl, rfl⟩
    · exact wpAny_pyHash_int h
    · exact wpAny_pyHash_str h
  eqBool := fun hu hv h => by
    rcases keyIs_shape hu with ⟨i, t, rfl, rfl⟩ | ⟨x, t, rfl, rfl⟩
    · rcases keyIs_shape hv with ⟨j, u, rfl, rfl⟩ | ⟨y, u, rfl, rfl⟩
      · rw [key_ll] at h; exact wpAny_eqBool_int h
      · rw [key_lr] at h; exact SeqAt.EqAt.int_str i t y u _ _ _ _ h
    · rcases keyIs_shape hv with ⟨j, u, rfl, rfl⟩ | ⟨y, u, rfl, rfl⟩
      · rw [key_rl] at h; exact SeqAt.EqAt.str_int x t j u _ _ _ _ h
      · rw [key_rr] at h; exact wpAny_eqBool_str h
  «strs» := fun k x t v h => by
    rcases keyIs_shape h with ⟨i, u, rfl, e⟩ | ⟨y, u, rfl, e⟩
    · exact nomatch e
    · injection e with e1 _
      subst e1
      cases v <;> rfl
theorem mixKind_int (prog : Program) (w : World) (i : Int) (t : Tok) : (mixKind prog w).is (.inl i) (.int i t) = true := keyIs_int i t
theorem mixKind_str (prog : Program) (w : World) (x : Str) (t : Tok) : (mixKind prog w).is (.inr x) (.str x t) = true := keyIs_str x t
end L2
namespace L2
open PySem PySem.Spec PyProof.Rows
inductive V where
  | non | bl (b : Bool) | int (i : Int) | str (x : Str) | byt (b : Array UInt8) | flt (b : UInt64) | ref (a : Addr) | ty (n : String)
  deriving DecidableEq
def RelV : V → Value → Prop
  | .non, u => u = Value.none
  | .bl b, u => u = Value.bool b
  | .int i, u => ∃ t, u = Value.int i t
  | .str x, u => ∃ t, u = Value.str x t
  | .byt b, u => ∃ t, u = Value.bytes b t
  | .flt b, u => ∃ t, u = Value.float b t
  | .ref a, u => u = Value.ref a
  | .ty n, u => u = Value.type n
abbrev Vals : List V → List Value → Prop := Paired RelV
theorem Vals.length {xs : List V} {us : List Value} (r : Vals xs us) : xs.length = us.length := Paired.length r
theorem Vals.get : ∀ {xs : List V} {us : List Value} {i : Nat} {x : V}, Vals xs us → xs[i]? = some x → ∃ u, us[i]? = some u ∧ RelV x u
  | _, _, _, _, .nil, e => by simp at e
  | _, _, 0, _, .cons r _, e => by simp at e; subst e; exact ⟨_, rfl, r⟩
  | _, _, i + 1, x, .cons _ t, e => by
    obtain ⟨u, h1, h2⟩ := Vals.get (i := i) (x := x) t (by simpa using e)
    exact ⟨u, by simpa using h1, h2⟩
theorem Vals.set {x : V} {u : Value} (r : RelV x u) : ∀ {xs : List V} {us : List Value} (i : Nat), Vals xs us → Vals (xs.set i x) (us.set i u)
  | _, _, _, .nil => .nil
  | _, _, 0, .cons _ t => .cons r t
  | _, _, i + 1, .cons q t => .cons q (Vals.set r i t)
theorem Vals.append : ∀ {xs ys : List V} {us ws : List Value}, Vals xs us → Vals ys ws → Vals (xs ++ ys) (us ++ ws)
  | _, _, _, _, .nil, s => s
  | _, _, _, _, .cons r t, s => .cons r (Vals.append t s)
theorem Vals.take : ∀ {xs : List V} {us : List Value} (n : Nat), Vals xs us → Vals (xs.take n) (us.take n)
  | _, _, 0, _ => .nil
  | _, _, _ + 1, .nil => .nil
  | _, _, n + 1, .cons r t => .cons r (Vals.take n t)
theorem Vals.drop : ∀ {xs : List V} {us : List Value} (n : Nat), Vals xs us → Vals (xs.drop n) (us.drop n)
  | _, _, 0, r => r
  | _, _, _ + 1, .nil => .nil
  | _, _, n + 1, .cons _ t => Vals.drop n t
def RelO : Option V → Option Value → Prop
  | some v, some u => RelV v u
  | none, none => True
  | _, _ => False
def KV {κ : Type} : List (κ × V) → List (κ × Value) → Prop := Paired fun (p : κ × V) (q : κ × Value) => p.1 = q.1 ∧ RelV p.2 q.2
def kV : Key → V
  | .inl i => .int i
  | .inr x => .str x
inductive HO where
  | lst (xs : List V)
  | tup (xs : List V)
  | dK (kvs : List (Key × V)) | dT (kvs : List (List Key × V))
  | set (S : Int → Bool) (n : Nat)
  | ins (C dx : Addr) (fs : List (Str × V))
  | own (x : Addr)
  | xd (fs : List (Str × V))
  | met (f x : Addr)
  | rng (lo hi : Int)
  | frz (o : Obj) (u : HO)
  | tbl (ps : Array Value)
  | ext (φ : Heap → Prop)
abbrev Hp := Addr → Option HO
def upd (H : Hp) (a : Addr) (o : HO) : Hp := fun b => if b = a then some o else H b
theorem upd_same {H : Hp} {a : Addr} {o : HO} : upd H a o a = some o := by unfold upd; rw [if_pos rfl]
theorem upd_ne {H : Hp} {a b : Addr} {o : HO} (h : b ≠ a) : upd H a o b = H b := by unfold upd; rw [if_neg h]
theorem ne_of {H : Hp} {a b : Addr} {o u : HO} (h : H a = some o) (h' : H b = some u) (d : o ≠ u) : a ≠ b := by
  intro e; subst e; rw [h] at h'; exact d (Option.some.inj h')
theorem ne_of_none {H : Hp} {a b : Addr} {o : HO} (h : H a = some o) (h' : H b = none) : a ≠ b := by
  intro e; subst e; rw [h] at h'; cases h'
section
variable (P : Program) (w : World)
def ObjOk (H : Hp) (h : Heap) (a : Addr) : HO → Prop
  | .lst xs => xs.length ≤ sizeLine ∧ ∃ (its : List Value) (n : Nat), Vals xs its ∧ h.get? a = some { cls := .type "list", data := .seq its.toArray n }
  | .tup xs => xs.length ≤ sizeLine ∧ ∃ its : List Value, Vals xs its ∧ IsTup h a its.toArray
  | .dK kvs => kvs.length ≤ sizeLine ∧ (a == sysModules) = false ∧ ∃ vs, KV kvs vs ∧ h.DictOf (mixKind P w) a vs
  | .dT kvs => kvs.length ≤ sizeLine ∧ (a == sysModules) = false ∧ ∃ xs : List (List Key × Addr × Value),
      Paired (fun (p : List Key × V) (q : List Key × Addr × Value) => p.1 = q.1 ∧ H q.2.1 = some (.tup (p.1.map kV)) ∧ RelV p.2 q.2.2) kvs xs ∧
      ∃ o es ep, h.get? a = some o ∧ o.ExactDict ∧ o.data = .dict es ep ∧ es.toList = xs.map (entryOfKey (tupleKind (mixKind P w))) ∧ (xs.map (·.1)).Nodup
  | .set S n => h.SetOf (intKind P w) a S n
  | .ins C dx fs => H dx = some (.own a) ∧ fs.length ≤ 1000 ∧ dx ≠ a ∧ h.get? a = some (PySem.W.instObj C dx) ∧
      ∃ mA, h.Ns1 dx mA ∧ (∀ f, RelO (fs.lookup f) (mA f)) ∧ PySem.Within mA (fs.map (·.1))
  | .own _ => ∃ o, h.get? a = some o
  | .xd fs => ∃ mA, h.Ns1 a mA ∧ ∀ f, RelO (fs.lookup f) (mA f)
  | .rng lo hi => ∃ t u v, h.get? a = some { cls := .type "range", data := .fields #[.int lo t, .int hi u, .int 1 v] }
  | .frz o u => h.get? a = some o ∧ ObjOk H h a u
  | .tbl ps => h.get? a = some { cls := .none, data := .fields ps }
  | .met f x => h.get? a = some (PySem.W.methodObj (.ref f) (.ref x))
  | .ext φ => φ h ∧ (∃ o, h.get? a = some o) ∧ ∀ h1 h2 : Heap, φ h1 → (∀ o, h1.get? a = some o → h2.get? a = some o) → φ h2
def HOk (H : Hp) (h : Heap) : Prop := ∀ a o, H a = some o → ObjOk P w H h a o
end
section
variable {P : Program} {w : World} {H H' : Hp} {h h' : Heap} {a : Addr} {o : HO}
theorem ObjOk.lt (x : ObjOk P w H h a o) : a < h.objs.size := by
  cases o with
  | lst xs => obtain ⟨_, _, _, _, e⟩ := x; exact Heap.lt_size e
  | tup xs => obtain ⟨_, _, _, p⟩ := x; exact p.lt
  | dK kvs => obtain ⟨_, _, _, _, o, _, _, e, _⟩ := x; exact Heap.lt_size e
  | dT kvs => obtain ⟨_, _, _, _, o, _, _, e, _⟩ := x; exact Heap.lt_size e
  | set S n => obtain ⟨o, _, _, _, e, _⟩ := x; exact Heap.lt_size e
  | ins C dx fs => obtain ⟨_, _, _, e, _⟩ := x; exact Heap.lt_size e
  | own y => obtain ⟨_, e⟩ := x; exact Heap.lt_size e
  | xd fs => obtain ⟨_, ⟨_, _, _, e, _⟩, _⟩ := x; exact Heap.lt_size e
  | rng lo hi => obtain ⟨_, _, _, e⟩ := x; exact Heap.lt_size e
  | frz ob u => obtain ⟨e, _⟩ := x; exact Heap.lt_size e
  | tbl ps => exact Heap.lt_size (show h.get? a = some _ from x)
  | met f y => exact Heap.lt_size (show h.get? a = some _ from x)
  | ext φ => obtain ⟨_, ⟨_, e⟩, _⟩ := x; exact Heap.lt_size e
theorem Paired.mapP {α β : Type} {F G : α → β → Prop} : ∀ {l₁ : List α} {l₂ : List β}, Paired F l₁ l₂ → (∀ a b, F a b → G a b) → Paired G l₁ l₂
  | _, _, .nil, _ => .nil
  | _, _, .cons r t, f => .cons (f _ _ r) (Paired.mapP t f)
theorem ObjOk.stay (x : ObjOk P w H h a o) (k : ∀ b u, (b = a ∨ H b = some (.own a)) → h.get? b = some u → h'.get? b = some u)
    (ho : ∀ b, H b = some (.own a) → H' b = some (.own a)) (ht : ∀ b xs, H b = some (.tup xs) → H' b = some (.tup xs)) : ObjOk P w H' h' a o := by
  induction o with
  | lst xs => obtain ⟨z, its, n, r, e⟩ := x; exact ⟨z, its, n, r, k _ _ (.inl rfl) e⟩
  | tup xs => obtain ⟨z, its, r, ob, e, c⟩ := x; exact ⟨z, its, r, ob, k _ _ (.inl rfl) e, c⟩
  | dK kvs => obtain ⟨z, y, vs, r, ob, es, ep, e, c⟩ := x; exact ⟨z, y, vs, r, ob, es, ep, k _ _ (.inl rfl) e, c⟩
  | dT kvs =>
    obtain ⟨z, y, xs, r, ob, es, ep, e, c⟩ := x
    exact ⟨z, y, xs, Paired.mapP r fun p q z => ⟨z.1, ht _ _ z.2.1, z.2.2⟩, ob, es, ep, k _ _ (.inl rfl) e, c⟩
  | set S n => obtain ⟨ob, es, ep, t, e, c⟩ := x; exact ⟨ob, es, ep, t, k _ _ (.inl rfl) e, c⟩
  | ins C dx fs =>
    obtain ⟨d, z, ne, e, mA, ⟨od, es, ep, e2, c⟩, r⟩ := x
    exact ⟨ho _ d, z, ne, k _ _ (.inl rfl) e, mA, ⟨od, es, ep, k _ _ (.inr d) e2, c⟩, r⟩
  | own y => obtain ⟨ob, e⟩ := x; exact ⟨ob, k _ _ (.inl rfl) e⟩
  | xd fs => obtain ⟨mA, ⟨od, es, ep, e, c⟩, r⟩ := x; exact ⟨mA, ⟨od, es, ep, k _ _ (.inl rfl) e, c⟩, r⟩
  | rng lo hi => obtain ⟨t, u, v, e⟩ := x; exact ⟨t, u, v, k _ _ (.inl rfl) e⟩
  | frz ob u ih => obtain ⟨e, q⟩ := x; exact ⟨k _ _ (.inl rfl) e, ih q⟩
  | tbl ps =>
    have e : h.get? a = some { cls := .none, data := .fields ps } := x
    show h'.get? a = some { cls := .none, data := .fields ps }
    exact k a _ (.inl rfl) e
  | met f y =>
    have e : h.get? a = some (PySem.W.methodObj (.ref f) (.ref y)) := x
    show h'.get? a = some (PySem.W.methodObj (.ref f) (.ref y))
    exact k a _ (.inl rfl) e
  | ext φ => obtain ⟨p, ⟨o, e⟩, st⟩ := x; exact ⟨st _ _ p fun o q => k _ _ (.inl rfl) q, ⟨o, k _ _ (.inl rfl) e⟩, st⟩
theorem HOk.lt (x : HOk P w H h) (e : H a = some o) : a < h.objs.size := (x a o e).lt
theorem HOk.fresh (x : HOk P w H h) (e : h.objs.size ≤ a) : H a = none := by
  cases q : H a with
  | none => rfl
  | some u => exact absurd (Nat.lt_of_lt_of_le (x.lt q) e) (Nat.lt_irrefl _)
theorem HOk.kept (x : HOk P w H h) (k : ∀ b u, h.get? b = some u → h'.get? b = some u) : HOk P w H h' := fun a o e =>
  (x a o e).stay (fun b u _ q => k b u q) (fun _ q => q) fun _ _ q => q
theorem HOk.laid (x : HOk P w H h) (k : ∀ b u, h.get? b = some u → h'.get? b = some u) (hp : h.objs.size ≤ a) (new : ObjOk P w (upd H a o) h' a o) : HOk P w (upd H a o) h' := fun b u e => by
  have hn := x.fresh hp
  by_cases hb : b = a
  · subst hb; rw [upd_same] at e; cases e; exact new
  · rw [upd_ne hb] at e
    exact (x b u e).stay (fun c v _ q => k c v q) (fun c q => by rw [upd_ne (ne_of_none q hn)]; exact q) fun c xs q => by rw [upd_ne (ne_of_none q hn)]; exact q
end
def Rd (H : Hp) (a : Addr) (u : HO) : Prop := H a = some u ∨ ∃ o, H a = some (.frz o u)
theorem Rd.ok {P : Program} {w : World} {H : Hp} {h : Heap} {a : Addr} {u : HO} (r : Rd H a u) (x : HOk P w H h) : ObjOk P w H h a u := by
  rcases r with r | ⟨o, r⟩
  · exact x a u r
  · obtain ⟨_, q⟩ := x a _ r
    exact q
def Mut : Option HO → Prop
  | some (.lst _) => True
  | some (.dK _) => True
  | some (.dT _) => True
  | some (.set _ _) => True
  | some (.ins _ _ _) => True
  | some (.ext _) => True
  | _ => False
section
variable {P : Program} {w : World} {H : Hp} {h h' : Heap} {x e : Addr} {o' : HO}
theorem HOk.write (ok : HOk P w H h) (mu : Mut (H x)) (he : e = x ∨ H e = some (.own x)) (k : ∀ b u, b ≠ e → h.get? b = some u → h'.get? b = some u) (heo : ∃ u, h'.get? e = some u)
    (new : ObjOk P w (upd H x o') h' x o') : HOk P w (upd H x o') h' := fun b u q => by
  have nown : ∀ c y, H c = some (.own y) → c ≠ x := fun c y r z => by subst z; rw [r] at mu; exact mu
  have ntup : ∀ c xs, H c = some (.tup xs) → c ≠ x := fun c xs r z => by subst z; rw [r] at mu; exact mu
  by_cases hb : b = x
  · subst hb; rw [upd_same] at q; cases q; exact new
  · rw [upd_ne hb] at q
    by_cases hbe : b = e
    · have q' : H b = some (.own x) := by
        rcases he with z | z
        · exact absurd (hbe.trans z) hb
        · rw [hbe]; exact z
      rw [q] at q'; cases q'
      obtain ⟨v, hv⟩ := heo
      exact ⟨v, by rw [hbe]; exact hv⟩
    · refine (ok b u q).stay (fun c v hc r => k c v ?_ r) (fun c r => by rw [upd_ne (nown c b r)]; exact r) fun c xs r => by rw [upd_ne (ntup c xs r)]; exact r
      rcases hc with rfl | hc
      · exact hbe
      · rintro rfl
        rcases he with z | z
        · exact nown c b hc z
        · rw [hc] at z; cases z; exact hb rfl
end
structure Un (fs ex : List Addr) (H H' : Hp) (h h' : Heap) : Prop where
  keep : ∀ b o, h.get? b = some o → H b = none → b ∉ fs → b ∉ ex → h'.get? b = some o
  slot : ∀ b o, h.get? b = some o → H b = none → b ∈ fs → b ∉ ex → ∃ sl, h'.get? b = some { o with slots := sl }
  free : ∀ b o, h.get? b = some o → H b = none → b ∉ ex → H' b = none
  there : ∀ b o, h.get? b = some o → b ∉ ex → ∃ o', h'.get? b = some o'
  tups : ∀ b xs, H b = some (.tup xs) → H' b = some (.tup xs)
  frzs : ∀ b o u, H b = some (.frz o u) → H' b = some (.frz o u)
  tbls : ∀ b ps, H b = some (.tbl ps) → ∃ more, H' b = some (.tbl (ps ++ more))
section
variable {fs fs' ex ex' : List Addr} {H H1 H2 : Hp} {h h1 h2 h' : Heap} {a x e : Addr} {o : HO}
theorem Un.any (u : Un fs ex H H1 h h1) {b : Addr} {ob : Obj} (q : h.get? b = some ob) (n : H b = none) (hx : b ∉ ex) : ∃ sl, h1.get? b = some { ob with slots := sl } := by
  by_cases hb : b ∈ fs
  · exact u.slot b ob q n hb hx
  · exact ⟨ob.slots, u.keep b ob q n hb hx⟩
theorem Un.kept (k : ∀ b u, h.get? b = some u → h'.get? b = some u) : Un fs ex H H h h' :=
  ⟨fun b ob q _ _ _ => k b ob q, fun b ob q _ _ _ => ⟨ob.slots, k b ob q⟩, fun _ _ _ n _ => n, fun b ob q _ => ⟨ob, k b ob q⟩, fun _ _ q => q, fun _ _ _ q => q, fun _ ps q => ⟨#[], by rw [q]; simp⟩⟩
theorem Un.refl : Un fs ex H H h h := Un.kept fun _ _ q => q
theorem Un.laid (k : ∀ b u, h.get? b = some u → h'.get? b = some u) (hp : h.objs.size ≤ a) (hn : H a = none) : Un fs ex H (upd H a o) h h' where
  keep := fun b u q _ _ _ => k b u q
  slot := fun b u q _ _ _ => ⟨u.slots, k b u q⟩
  free := fun b u q n _ => by rw [upd_ne (Nat.ne_of_lt (Nat.lt_of_lt_of_le (Heap.lt_size q) hp))]; exact n
  there := fun b u q _ => ⟨u, k b u q⟩
  tups := fun b xs q => by rw [upd_ne (ne_of_none q hn)]; exact q
  frzs := fun b u xs q => by rw [upd_ne (ne_of_none q hn)]; exact q
  tbls := fun b ps q => ⟨#[], by rw [upd_ne (ne_of_none q hn), q]; simp⟩
theorem Un.write (mu : Mut (H x)) (he : e = x ∨ H e = some (.own x)) (k : ∀ b u, b ≠ e → h.get? b = some u → h'.get? b = some u) (heo : ∃ u, h'.get? e = some u) : Un fs ex H (upd H x o) h h' := by
  have hx : ∀ b, H b = none → b ≠ x := fun b n z => by subst z; rw [n] at mu; exact mu
  have hb : ∀ b, H b = none → b ≠ e := fun b n z => by
    subst z
    rcases he with r | r
    · exact hx b n r
    · rw [n] at r; cases r
  have hm : ∀ b u, H b = some u → ¬ Mut (some u) → b ≠ x := fun b u q nm z => by subst z; rw [q] at mu; exact nm mu
  refine ⟨fun b u q n _ _ => k b u (hb b n) q, fun b u q n _ _ => ⟨u.slots, k b u (hb b n) q⟩, fun b u q n _ => by rw [upd_ne (hx b n)]; exact n, fun b u q _ => ?_,
    fun b xs q => by rw [upd_ne (hm b _ q fun z => z)]; exact q, fun b u xs q => by rw [upd_ne (hm b _ q fun z => z)]; exact q, fun b ps q => ⟨#[], by rw [upd_ne (hm b _ q fun z => z), q]; simp⟩⟩
  by_cases hbe : b = e
  · subst hbe; exact heo
  · exact ⟨u, k b u hbe q⟩
end
def trk (h : Heap) (H : Hp) : List Addr := (List.range h.objs.size).filter fun a => (H a).isSome
def hidT (h : Heap) (H : Hp) : Heap := PySem.W.hideAll h (trk h H)
theorem hidT_size (h : Heap) (H : Hp) : (hidT h H).objs.size = h.objs.size := PySem.W.hideAll_size _ _
theorem hidT_get {h : Heap} {H : Hp} {b : Addr} {o : Obj} (e : h.get? b = some o) (n : H b = none) : (hidT h H).get? b = some o :=
  PySem.W.hideAll_get _ e fun hm => by
    have q : (H b).isSome = true := (List.mem_filter.mp hm).2
    rw [n] at q; simp at q
theorem of_hidT {h : Heap} {H : Hp} {b : Addr} {o : Obj} (e : (hidT h H).get? b = some o) : h.get? b = some o ∧ H b = none := by
  have e' : h.get? b = some o := PySem.W.of_hideAll (trk h H) e
  refine ⟨e', ?_⟩
  cases q : H b with
  | none => rfl
  | some x =>
    have hm : b ∈ trk h H := List.mem_filter.mpr ⟨List.mem_range.mpr (Heap.lt_size e'), by simp [q]⟩
    have z : (hidT h H).get? b = none := PySem.W.hideAll_none (trk h H) hm
    rw [z] at e; cases e
def allNews (g h : Heap) (L : Addr) : List (Addr × Obj) := (List.range h.objs.size).filterMap fun a => if a = L ∨ (g.get? a).isSome = true then none else (h.get? a).map fun o => (a, o)
def rest (g h : Heap) (L d : Addr) : List (Addr × Obj) := (allNews g h L).filter fun p => decide (p.1 ≠ d)
end L2
namespace L2
open PySem PySem.Spec PyProof.Rows
structure Mod (K : PySem.W.Frag) (mg : Str → Option Value) (base : Heap) : Prop where
  kin : K.In base
  glob : base.Ns mainGlobals mg
  blt : ∃ mb, base.Ns builtinsNs mb ∧ ∀ x : Str, x ≠ "__name__" → mb x = bootBuiltins x
  nolimit : base.NoLimit
structure Cx where
  prog : Program
  w : World
  K : PySem.W.Frag
  mg : Str → Option Value
  base : Heap
  A : Around
  N : List Str
  s₀ : Shared
  H₀ : Hp
  env : Env
  outer : List Env
  stack : List Env
  ex : List Addr
  fn : Str → Bool
  calm : Bool
  pn : List (Addr × Obj)
  xe : Value → Shared → Prop
def frs (l : List Env) : List Addr := l.filterMap (·.frame)
abbrev Cx.fs (X : Cx) : List Addr := frs X.outer
def Vis (sc : Scope) (x : Str) : Prop := sc.names.lookup x = some .local ∨ sc.names.lookup x = some .cell ∨ sc.names.lookup x = some .free
def Loc (sc : Scope) (x : Str) : Prop := sc.names.lookup x = some .local ∨ sc.names.lookup x = some .cell
def Look (env : Env) (h : Heap) (m : Str → Option Value) (x : Str) (u : Value) : Prop :=
  (env.kindOf x = some .local ∧ m x = some u) ∨ ((env.kindOf x = some .cell ∨ env.kindOf x = some .free) ∧ ∃ c, env.cells.lookup x = some c ∧ h.IsCell c (some u))
structure Cx.Ok (X : Cx) : Prop where
  mod : Mod X.K X.mg X.base
  kind : X.env.scope.kind = .function
  glob : X.env.globals = mainGlobals
  blt : X.env.builtins = builtinsNs
  above : X.s₀.heap.objs.size ≤ X.env.locals
  inj : ∀ x y c, X.env.cells.lookup x = some c → X.env.cells.lookup y = some c → x = y
  has : ∀ x, (X.env.kindOf x = some .cell ∨ X.env.kindOf x = some .free) → ∃ c, X.env.cells.lookup x = some c
  cab : ∀ x c, X.fn x = true → X.env.cells.lookup x = some c → X.s₀.heap.objs.size ≤ c
  hd : X.calm = true → X.A.handled = none
  frames : X.A.frames = some X.stack
  stk : X.stack = X.outer ∨ (X.stack = X.env :: X.outer ∧ X.env.frame = some X.env.locals)
  exf : ∀ b ∈ X.ex, b ≠ X.env.locals ∧ ∀ x c, X.env.cells.lookup x = some c → c ≠ b
  bs : ∀ b o, X.base.get? b = some o → X.s₀.heap.get? b = some o ∧ X.H₀ b = none
  bsz : X.base.objs.size ≤ X.s₀.heap.objs.size
  noex : ∀ b o, X.base.get? b = some o → b ∉ X.ex
  exfs : ∀ b ∈ X.ex, b ∉ X.fs
  funs : X.s₀.heap.FunFrames X.base X.outer
  frf : ∀ b ∈ X.fs, X.H₀ b = none
structure Inv (X : Cx) (pins : List (Addr × Obj)) (σ : List (Option V)) (H : Hp) (s : Shared) : Prop where
  ok : X.Ok
  os : s.os = X.s₀.os
  bare : AllBare s.gens
  base : Un X.fs X.ex X.H₀ H X.s₀.heap s.heap
  loc : ∃ m, s.heap.Ns X.env.locals m ∧ ∀ (i : Nat) (x : Str) (v : V), X.N[i]? = some x → σ[i]? = some (some v) → Vis X.env.scope x → ∃ u, RelV v u ∧ Look X.env s.heap m x u
  cell : ∀ x c, X.env.cells.lookup x = some c → ∃ v, s.heap.IsCell c v
  free : H X.env.locals = none
  freeC : ∀ x c, X.env.cells.lookup x = some c → H c = none
  pin : ∀ p ∈ X.pn ++ pins, s.heap.get? p.1 = some p.2 ∧ H p.1 = none ∧ p.1 ≠ X.env.locals ∧ p.1 ∉ X.fs ∧ ∀ v, p.2.data ≠ .cell v
  hok : HOk X.prog X.w H s.heap
  len : σ.length = X.N.length
section
variable {X : Cx} {pins : List (Addr × Obj)} {σ : List (Option V)} {H H' : Hp} {s : Shared} {h' : Heap}
theorem Cx.Ok.nofr (ok : X.Ok) {b : Addr} {o : Obj} (e : X.base.get? b = some o) : b ∉ X.fs := fun hb => by
  have := (ok.funs.mem hb).1
  rw [e] at this; cases this
theorem Inv.bs (I : Inv X pins σ H s) : ∀ b o, X.base.get? b = some o → s.heap.get? b = some o ∧ H b = none := fun b o e =>
  ⟨I.base.keep b o (I.ok.bs b o e).1 (I.ok.bs b o e).2 (I.ok.nofr e) (I.ok.noex b o e), I.base.free b o (I.ok.bs b o e).1 (I.ok.bs b o e).2 (I.ok.noex b o e)⟩
theorem Inv.bk (I : Inv X pins σ H s) : ∀ b o, X.base.get? b = some o → s.heap.get? b = some o := fun b o e => (I.bs b o e).1
theorem Inv.mod (I : Inv X pins σ H s) : Mod X.K X.mg X.base := I.ok.mod
theorem Inv.kIn (I : Inv X pins σ H s) : X.K.In s.heap := I.ok.mod.kin.keeps I.bk
theorem Inv.lt (I : Inv X pins σ H s) : X.env.locals < s.heap.objs.size := let ⟨_, hn, _⟩ := I.loc; hn.lt
theorem Inv.sz (I : Inv X pins σ H s) : X.s₀.heap.objs.size ≤ s.heap.objs.size := Nat.le_trans I.ok.above (Nat.le_of_lt I.lt)
theorem Inv.nofs (I : Inv X pins σ H s) {a : Addr} (h : s.heap.objs.size ≤ a) : a ∉ X.fs := fun hb => by
  obtain ⟨_, o, ho, _⟩ := I.ok.funs.mem hb
  exact absurd (Nat.lt_of_lt_of_le (Heap.lt_size ho) (Nat.le_trans I.sz h)) (Nat.lt_irrefl _)
theorem Inv.cne (I : Inv X pins σ H s) : ∀ x c, X.env.cells.lookup x = some c → c ≠ X.env.locals := fun x c e z => by
  obtain ⟨v, o, ho, hd⟩ := I.cell x c e
  obtain ⟨m, ⟨o', es, ep, ho', hd', _⟩, _⟩ := I.loc
  rw [z, ho'] at ho; cases ho; rw [hd'] at hd; cases hd
theorem Inv.funs (I : Inv X pins σ H s) : s.heap.FunFrames X.base X.outer := by
  have all : ∀ (l : List Env), (∀ b ∈ frs l, b ∈ X.fs) → X.s₀.heap.FunFrames X.base l → s.heap.FunFrames X.base l := by
    intro l
    induction l with
    | nil => intro _ _; trivial
    | cons env r ih =>
      intro hs hl
      obtain ⟨hk, ⟨L, o, hf, hn, ho, hd⟩, hr⟩ := hl
      have hL : L ∈ X.fs := hs L (by unfold frs; rw [List.filterMap_cons, hf]; exact List.mem_cons_self)
      obtain ⟨sl, e⟩ := I.base.slot L o ho (I.ok.frf L hL) hL fun z => I.ok.exfs L z hL
      exact ⟨hk, ⟨L, _, hf, hn, e, hd⟩, ih (fun b hb => hs b (by unfold frs; rw [List.filterMap_cons, hf]; exact List.mem_cons_of_mem _ hb)) hr⟩
  exact all X.outer (fun _ hb => hb) I.ok.funs
theorem Inv.stack (I : Inv X pins σ H s) : s.heap.FunFrames X.base X.stack := by
  rcases I.ok.stk with e | ⟨e, hf⟩
  · rw [e]; exact I.funs
  · rw [e]
    obtain ⟨m, hn, _⟩ := I.loc
    refine .cons (by rw [I.ok.kind]; decide) hf hn ?_ I.funs
    exact Heap.get?_none_of_le (Nat.le_trans I.ok.bsz I.ok.above)
theorem Inv.stkSub (I : Inv X pins σ H s) : ∀ b ∈ frs X.stack, b ∈ X.env.locals :: X.fs := fun b hb => by
  rcases I.ok.stk with e | ⟨e, hf⟩
  · rw [e] at hb; exact List.mem_cons_of_mem _ hb
  · rw [e] at hb
    unfold frs at hb
    rw [List.filterMap_cons, hf] at hb
    exact hb
theorem Inv.stkFree (I : Inv X pins σ H s) : ∀ b ∈ frs X.stack, H b = none := fun b hb => by
  rcases List.mem_cons.mp (I.stkSub b hb) with e | hb
  · rw [e]; exact I.free
  · obtain ⟨_, o, ho, _⟩ := I.ok.funs.mem hb
    exact I.base.free b o ho (I.ok.frf b hb) fun z => I.ok.exfs b z hb
theorem Inv.step {g' : Array GenState} {t' : Nat} {d' : Drawn} {ch : List Addr} (I : Inv X pins σ H s)
    (hch : ∀ b ∈ ch, (b ∈ X.ex ∨ X.s₀.heap.objs.size ≤ b) ∧ b ≠ X.env.locals ∧ (∀ x c, X.env.cells.lookup x = some c → c ≠ b) ∧ ∀ p ∈ X.pn ++ pins, p.1 ≠ b)
    (keep : ∀ b o, b ≠ X.env.locals → b ∉ X.fs → b ∉ ch → s.heap.get? b = some o → H b = none → h'.get? b = some o)
    (slot : ∀ b o, b ≠ X.env.locals → b ∈ X.fs → b ∉ ch → s.heap.get? b = some o → H b = none → ∃ sl, h'.get? b = some { o with slots := sl }) (free : ∀ b o, b ∉ ch → s.heap.get? b = some o → H b = none → H' b = none)
    (there : ∀ b o, b ∉ ch → s.heap.get? b = some o → ∃ o', h'.get? b = some o')
    (tups : ∀ b xs, H b = some (.tup xs) → H' b = some (.tup xs)) (frzs : ∀ b o u, H b = some (.frz o u) → H' b = some (.frz o u)) (tbls : ∀ b ps, H b = some (.tbl ps) → ∃ more, H' b = some (.tbl (ps ++ more)))
    (ns : ∀ m, s.heap.Ns X.env.locals m → h'.Ns X.env.locals m) (hok : HOk X.prog X.w H' h') (hg : AllBare g') :
    Inv X pins σ H' { s with heap := h', gens := g', drawn := d', toks := t' } := by
  have neL : ∀ b o, X.s₀.heap.get? b = some o → b ≠ X.env.locals := fun b o e => Nat.ne_of_lt (Nat.lt_of_lt_of_le (Heap.lt_size e) I.ok.above)
  have neC : ∀ b o, X.s₀.heap.get? b = some o → b ∉ X.ex → b ∉ ch := fun b o e hx hb => by
    rcases (hch b hb).1 with z | z
    · exact hx z
    · exact absurd (Nat.lt_of_lt_of_le (Heap.lt_size e) z) (Nat.lt_irrefl _)
  have cellK : ∀ x c, X.env.cells.lookup x = some c → ∀ v, s.heap.IsCell c v → h'.IsCell c v := fun x c e v ⟨o, ho, hd⟩ => by
    have nch : c ∉ ch := fun z => (hch c z).2.2.1 x c e rfl
    by_cases hc : c ∈ X.fs
    · obtain ⟨sl, q⟩ := slot c o (I.cne x c e) hc nch ho (I.freeC x c e)
      exact ⟨_, q, hd⟩
    · exact ⟨o, keep c o (I.cne x c e) hc nch ho (I.freeC x c e), hd⟩
  refine ⟨I.ok, I.os, hg, ⟨fun b o e n hb hx => ?_, fun b o e n hb hx => ?_, fun b o e n hx => ?_, fun b o e hx => ?_, fun b xs e => tups b xs (I.base.tups b xs e), fun b o xs e => frzs b o xs (I.base.frzs b o xs e), fun b ps e => ?_⟩, ?_, fun x c e => ?_, ?_, fun x c e => ?_, fun p hp => ?_, hok, I.len⟩
  · exact keep b o (neL b o e) hb (neC b o e hx) (I.base.keep b o e n hb hx) (I.base.free b o e n hx)
  · obtain ⟨sl, e1⟩ := I.base.slot b o e n hb hx
    obtain ⟨sl', e2⟩ := slot b _ (neL b o e) hb (neC b o e hx) e1 (I.base.free b o e n hx)
    exact ⟨sl', e2⟩
  · obtain ⟨o', e1⟩ := I.base.there b o e hx
    exact free b o' (neC b o e hx) e1 (I.base.free b o e n hx)
  · obtain ⟨o', e1⟩ := I.base.there b o e hx
    exact there b o' (neC b o e hx) e1
  · obtain ⟨m1, e1⟩ := I.base.tbls b ps e
    obtain ⟨m2, e2⟩ := tbls b _ e1
    exact ⟨m1 ++ m2, by rw [e2, Array.append_assoc]⟩
  · obtain ⟨m, hn, hl⟩ := I.loc
    refine ⟨m, ns m hn, fun i x v e1 e2 e3 => ?_⟩
    obtain ⟨u, r, l⟩ := hl i x v e1 e2 e3
    refine ⟨u, r, ?_⟩
    rcases l with l | ⟨k, c, e, z⟩
    · exact .inl l
    · exact .inr ⟨k, c, e, cellK x c e _ z⟩
  · obtain ⟨v, z⟩ := I.cell x c e
    exact ⟨v, cellK x c e v z⟩
  · obtain ⟨m, ⟨o, _, _, ho, _⟩, _⟩ := I.loc
    exact free _ o (fun z => (hch _ z).2.1 rfl) ho I.free
  · obtain ⟨v, o, ho, hd⟩ := I.cell x c e
    exact free c o (fun z => (hch c z).2.2.1 x c e rfl) ho (I.freeC x c e)
  · obtain ⟨e, n, ne, nf, d⟩ := I.pin p hp
    have nch : p.1 ∉ ch := fun z => (hch p.1 z).2.2.2 p hp rfl
    exact ⟨keep p.1 p.2 ne nf nch e n, free p.1 p.2 nch e n, ne, nf, d⟩
theorem Inv.un {t' : Nat} (I : Inv X pins σ H s) (u : Un X.fs [] H H' s.heap h') (hok : HOk X.prog X.w H' h') : Inv X pins σ H' { s with heap := h', toks := t' } := by
  obtain ⟨m, ⟨o, es, ep, ho, r⟩, _⟩ := id I.loc
  obtain ⟨sl, hL⟩ := u.any ho I.free (by simp)
  exact I.step (g' := s.gens) (d' := s.drawn) (ch := []) (fun _ z => nomatch z) (fun b o _ hb _ e n => u.keep b o e n hb (by simp)) (fun b o _ hb _ e n => u.slot b o e n hb (by simp)) (fun b o _ e n => u.free b o e n (by simp)) (fun b o _ e => u.there b o e (by simp)) u.tups u.frzs u.tbls (fun m' hm => by
    obtain ⟨o', es', ep', ho', r'⟩ := hm
    rw [ho] at ho'; cases ho'
    exact ⟨_, es', ep', hL, r'⟩) hok I.bare
theorem Inv.call {g' : Array GenState} {t' : Nat} {d' : Drawn} {ch : List Addr} (I : Inv X pins σ H s) (u : Un (frs X.stack) ch H H' s.heap h') (hok : HOk X.prog X.w H' h') (hg : AllBare g')
    (hch : ∀ b ∈ ch, (b ∈ X.ex ∨ X.s₀.heap.objs.size ≤ b) ∧ b ≠ X.env.locals ∧ (∀ x c, X.env.cells.lookup x = some c → c ≠ b) ∧ ∀ p ∈ X.pn ++ pins, p.1 ≠ b) :
    Inv X pins σ H' { s with heap := h', gens := g', drawn := d', toks := t' } := by
  obtain ⟨m, ⟨o, es, ep, ho, r⟩, _⟩ := id I.loc
  obtain ⟨sl, hL⟩ := u.any ho I.free fun z => (hch _ z).2.1 rfl
  exact I.step (ch := ch) hch (fun b o hL hb hc e n => u.keep b o e n (fun z => (List.mem_cons.mp (I.stkSub b z)).elim hL hb) hc) (fun b o _ _ hc e n => u.any e n hc) (fun b o hc e n => u.free b o e n hc) (fun b o hc e => u.there b o e hc) u.tups u.frzs u.tbls (fun m' hm => by
    obtain ⟨o', es', ep', ho', r'⟩ := hm
    rw [ho] at ho'; cases ho'
    exact ⟨_, es', ep', hL, r'⟩) hok hg
theorem Inv.turned {t' : Nat} {it : Addr} (I : Inv X pins σ H s) (k : ∀ b o, b ≠ it → s.heap.get? b = some o → h'.get? b = some o) (hn : H it = none) (hL : it ≠ X.env.locals)
    (h1 : it ∈ X.ex ∨ X.s₀.heap.objs.size ≤ it) (h2 : ∀ x c, X.env.cells.lookup x = some c → c ≠ it) (h3 : ∀ p ∈ X.pn ++ pins, p.1 ≠ it) : Inv X pins σ H { s with heap := h', toks := t' } := by
  have nit : ∀ b u, H b = some u → b ≠ it := fun b u e z => by rw [z, hn] at e; cases e
  refine I.step (g' := s.gens) (d' := s.drawn) (ch := [it]) (fun b hb => ?_) (fun b o _ _ hc e _ => k b o (fun z => hc (by simp [z])) e) (fun b o _ _ hc e _ => ⟨o.slots, k b o (fun z => hc (by simp [z])) e⟩) (fun _ _ _ _ n => n)
    (fun b o hc e => ⟨o, k b o (fun z => hc (by simp [z])) e⟩) (fun _ _ e => e) (fun _ _ _ e => e) (fun b ps e => ⟨#[], by rw [e]; simp⟩) (fun m hm => ?_) (fun b u e => ?_) I.bare
  · have e : b = it := by simpa using hb
    subst e
    exact ⟨h1, hL, h2, h3⟩
  · obtain ⟨o, es, ep, ho, r⟩ := hm
    exact ⟨o, es, ep, k _ o (Ne.symm hL) ho, r⟩
  · refine (I.hok b u e).stay (fun c v hc q => k c v ?_ q) (fun _ q => q) fun _ _ q => q
    rcases hc with z | z
    · rw [z]; exact nit b u e
    · exact nit c _ z
theorem Inv.tok (I : Inv X pins σ H s) (t : Nat) : Inv X pins σ H { s with toks := t } := I.un (h' := s.heap) (t' := t) Un.refl I.hok
theorem Inv.kept {t' : Nat} (I : Inv X pins σ H s) (k : ∀ b u, s.heap.get? b = some u → h'.get? b = some u) : Inv X pins σ H { s with heap := h', toks := t' } := I.un (Un.kept k) (I.hok.kept k)
theorem Inv.laid {a : Addr} {o : HO} {t' : Nat} (I : Inv X pins σ H s) (k : ∀ b u, s.heap.get? b = some u → h'.get? b = some u) (hp : s.heap.objs.size ≤ a) (new : ObjOk X.prog X.w (upd H a o) h' a o) :
    Inv X pins σ (upd H a o) { s with heap := h', toks := t' } := I.un (Un.laid k hp (I.hok.fresh hp)) (I.hok.laid k hp new)
theorem Inv.write {x e : Addr} {o : HO} {t' : Nat} (I : Inv X pins σ H s) (mu : Mut (H x)) (he : e = x ∨ H e = some (.own x)) (k : ∀ b u, b ≠ e → s.heap.get? b = some u → h'.get? b = some u) (heo : ∃ u, h'.get? e = some u)
    (new : ObjOk X.prog X.w (upd H x o) h' x o) : Inv X pins σ (upd H x o) { s with heap := h', toks := t' } := I.un (Un.write mu he k heo) (I.hok.write mu he k heo new)
theorem Inv.weak {σ' : List (Option V)} (I : Inv X pins σ H s) (hl : σ'.length = σ.length) (w : ∀ (i : Nat) v, σ'[i]? = some (some v) → σ[i]? = some (some v)) : Inv X pins σ' H s :=
  ⟨I.ok, I.os, I.bare, I.base, let ⟨m, hn, hl'⟩ := I.loc; ⟨m, hn, fun i x v e1 e2 e3 => hl' i x v e1 (w i v e2) e3⟩, I.cell, I.free, I.freeC, I.pin, I.hok, hl.trans I.len⟩
theorem Inv.pins_of {pins' : List (Addr × Obj)} (I : Inv X pins σ H s) (h : ∀ p ∈ pins', s.heap.get? p.1 = some p.2 ∧ H p.1 = none ∧ p.1 ≠ X.env.locals ∧ p.1 ∉ X.fs ∧ ∀ v, p.2.data ≠ .cell v) : Inv X pins' σ H s :=
  ⟨I.ok, I.os, I.bare, I.base, I.loc, I.cell, I.free, I.freeC, fun p hp => (List.mem_append.mp hp).elim (fun z => I.pin p (List.mem_append_left _ z)) (h p), I.hok, I.len⟩
theorem nodup_ix {N : List Str} (hN : N.Nodup) {i j : Nat} {x : Str} (a : N[i]? = some x) (b : N[j]? = some x) : i = j := by
  obtain ⟨h1, e1⟩ := List.getElem?_eq_some_iff.mp a
  obtain ⟨h2, e2⟩ := List.getElem?_eq_some_iff.mp b
  exact (List.getElem_inj hN).mp (e1.trans e2.symm)
theorem store_ok2 {M : Model} {A : Around} {E : Value → Shared → Prop} {i : Nat} {x : Str} {v : V} {u : Value} {Q : Unit → Shared → Prop} (I : Inv X pins σ H s) (hN : X.N.Nodup) (hi : X.N[i]? = some x) (hx : Loc X.env.scope x) (r : RelV v u)
    (h : ∀ s', Inv X pins (σ.set i (some v)) H s' → (∃ a, Heap.SameBut a s.heap s'.heap ∧ (a = X.env.locals ∨ X.env.cells.lookup x = some a)) → Q () s') (hf : X.fn x = true ∨ X.env.scope.names.lookup x = some .local := by first | exact .inl rfl | exact .inr rfl | assumption) : wpAny M A (storeName X.env x u) Q E s := by
  obtain ⟨m, hn, hl⟩ := id I.loc
  have hcls : (X.env.scope.kind == .class || (X.env.scope.kind == .module && X.env.locals != X.env.globals)) = false := by rw [I.ok.kind]; rfl
  have hiσ : i < σ.length := by rw [I.len]; exact (List.getElem?_eq_some_iff.mp hi).1
  have cne := I.cne
  have tracked : ∀ {a : Addr} {h' : Heap}, (∃ o, s.heap.get? a = some o ∧ H a = none) → Heap.SameBut a s.heap h' → HOk X.prog X.w H h' := fun {a h'} ha hs b ob e => by
    obtain ⟨_, _, hfree⟩ := ha
    refine (I.hok b ob e).stay (fun c w' hc q => (hs.2 c ?_).trans q) (fun _ q => q) fun _ _ q => q
    rintro rfl
    rcases hc with rfl | hc
    · rw [hfree] at e; cases e
    · rw [hfree] at hc; cases hc
  rcases hx with hk | hk
  · refine wpAny_storeName_local hk hn (fun h' hn' hs => ?_) hcls
    obtain ⟨oL, _, _, hoL, _⟩ := id hn
    refine h _ ⟨I.ok, I.os, I.bare, ⟨fun b o e n hb hx => ?_, fun b o e n hb hx => ?_, I.base.free, fun b o e hx => ?_, I.base.tups, I.base.frzs, I.base.tbls⟩, ⟨_, hn', fun j y v' e1 e2 e3 => ?_⟩, fun y c e => ?_, I.free, I.freeC, fun p hp => ?_, tracked ⟨oL, hoL, I.free⟩ hs, by simpa using I.len⟩ ⟨_, hs, .inl rfl⟩
    · exact (hs.2 b (Nat.ne_of_lt (Nat.lt_of_lt_of_le (Heap.lt_size e) I.ok.above))).trans (I.base.keep b o e n hb hx)
    · obtain ⟨sl, e1⟩ := I.base.slot b o e n hb hx
      exact ⟨sl, (hs.2 b (Nat.ne_of_lt (Nat.lt_of_lt_of_le (Heap.lt_size e) I.ok.above))).trans e1⟩
    · obtain ⟨o', e1⟩ := I.base.there b o e hx
      exact ⟨o', (hs.2 b (Nat.ne_of_lt (Nat.lt_of_lt_of_le (Heap.lt_size e) I.ok.above))).trans e1⟩
    · by_cases hj : j = i
      · subst hj
        rw [hi] at e1; cases e1
        rw [List.getElem?_set_self hiσ] at e2
        cases e2
        exact ⟨u, r, .inl ⟨hk, by simp⟩⟩
      · rw [List.getElem?_set_ne (Ne.symm hj)] at e2
        obtain ⟨u', r', q⟩ := hl j y v' e1 e2 e3
        refine ⟨u', r', ?_⟩
        rcases q with ⟨k, e⟩ | ⟨k, c, e, z⟩
        · refine .inl ⟨k, ?_⟩
          have : y ≠ x := fun e => hj (nodup_ix hN e1 (e ▸ hi))
          simp [this, e]
        · exact .inr ⟨k, c, e, z.sameBut hs (cne y c e)⟩
    · obtain ⟨w', z⟩ := I.cell y c e
      exact ⟨w', z.sameBut hs (cne y c e)⟩
    · obtain ⟨e, n, ne, nf, d⟩ := I.pin p hp
      exact ⟨(hs.2 p.1 ne).trans e, n, ne, nf, d⟩
  · have hfn : X.fn x = true := by
      rcases hf with z | z
      · exact z
      · rw [z] at hk; cases hk
    obtain ⟨c, hc⟩ := I.ok.has x (.inl hk)
    obtain ⟨w', z⟩ := I.cell x c hc
    refine wpAny_storeName_cell I.ok.kind hk hc z (fun h' hc' hs => ?_)
    obtain ⟨oc, hoc, hocd⟩ := id z
    refine h { s with heap := h' } ⟨I.ok, I.os, I.bare, ⟨fun b o e n hb hx => ?_, fun b o e n hb hx => ?_, I.base.free, fun b o e hx => ?_, I.base.tups, I.base.frzs, I.base.tbls⟩, ⟨m, hn.sameBut hs (Ne.symm (cne x c hc)), fun j y v' e1 e2 e3 => ?_⟩, fun y c' e => ?_, I.free, I.freeC, fun p hp => ?_, tracked ⟨oc, hoc, I.freeC x c hc⟩ hs, by simpa using I.len⟩ ⟨c, hs, .inr hc⟩
    · exact (hs.2 b (Nat.ne_of_lt (Nat.lt_of_lt_of_le (Heap.lt_size e) (I.ok.cab x c hfn hc)))).trans (I.base.keep b o e n hb hx)
    · obtain ⟨sl, e1⟩ := I.base.slot b o e n hb hx
      exact ⟨sl, (hs.2 b (Nat.ne_of_lt (Nat.lt_of_lt_of_le (Heap.lt_size e) (I.ok.cab x c hfn hc)))).trans e1⟩
    · obtain ⟨o', e1⟩ := I.base.there b o e hx
      exact ⟨o', (hs.2 b (Nat.ne_of_lt (Nat.lt_of_lt_of_le (Heap.lt_size e) (I.ok.cab x c hfn hc)))).trans e1⟩
    · by_cases hj : j = i
      · subst hj
        rw [hi] at e1; cases e1
        rw [List.getElem?_set_self hiσ] at e2
        cases e2
        exact ⟨u, r, .inr ⟨.inl hk, c, hc, hc'⟩⟩
      · rw [List.getElem?_set_ne (Ne.symm hj)] at e2
        obtain ⟨u', r', q⟩ := hl j y v' e1 e2 e3
        refine ⟨u', r', ?_⟩
        rcases q with q | ⟨k, c', e, z'⟩
        · exact .inl q
        · refine .inr ⟨k, c', e, z'.sameBut hs ?_⟩
          rintro rfl
          exact hj (nodup_ix hN e1 (I.ok.inj _ _ _ e hc ▸ hi))
    · by_cases hcc : c' = c
      · subst hcc; exact ⟨_, hc'⟩
      · obtain ⟨w2, z2⟩ := I.cell y c' e
        exact ⟨w2, z2.sameBut hs hcc⟩
    · obtain ⟨e, n, ne, nf, d⟩ := I.pin p hp
      refine ⟨(hs.2 p.1 ?_).trans e, n, ne, nf, d⟩
      intro q
      rw [q, hoc] at e
      have q' : oc = p.2 := Option.some.inj e
      exact d w' (by rw [← q']; exact hocd)
theorem store_ok {M : Model} {A : Around} {E : Value → Shared → Prop} {i : Nat} {x : Str} {v : V} {u : Value} {Q : Unit → Shared → Prop} (I : Inv X pins σ H s) (hN : X.N.Nodup) (hi : X.N[i]? = some x) (hx : Loc X.env.scope x) (r : RelV v u)
    (h : ∀ s', Inv X pins (σ.set i (some v)) H s' → Q () s') (hf : X.fn x = true ∨ X.env.scope.names.lookup x = some .local := by first | exact .inl rfl | exact .inr rfl | assumption) : wpAny M A (storeName X.env x u) Q E s :=
  store_ok2 I hN hi hx r (fun s' I' _ => h s' I') hf
theorem Inv.call' {s' : Shared} {ch : List Addr} (I : Inv X pins σ H s) (ho : s'.os = s.os) (u : Un (frs X.stack) ch H H' s.heap s'.heap) (hok : HOk X.prog X.w H' s'.heap) (hg : AllBare s'.gens)
    (hch : ∀ b ∈ ch, (b ∈ X.ex ∨ X.s₀.heap.objs.size ≤ b) ∧ b ≠ X.env.locals ∧ (∀ x c, X.env.cells.lookup x = some c → c ≠ b) ∧ ∀ p ∈ X.pn ++ pins, p.1 ≠ b) : Inv X pins σ H' s' := by
  obtain ⟨h', g', d', t', o'⟩ := s'
  have e : o' = s.os := ho
  subst e
  exact I.call (g' := g') (t' := t') (d' := d') u hok hg hch
end
abbrev XK := Value → Option Addr → Hp → Prop
abbrev St := List (Option V)
abbrev VK := V → Hp → Prop
abbrev TE := St → Hp → VK → Prop
abbrev TT := St → Hp → (Bool → Hp → Prop) → Prop
abbrev TA := St → Hp → (List V → Hp → Prop) → Prop
structure Ends where
  nx : St → Hp → Prop
  rt : VK
  bk : St → Hp → Prop := fun _ _ => False
  ct : St → Hp → Prop := fun _ _ => False
abbrev TS := Ends → St → Hp → Prop
def EP (X : Cx) (pins : List (Addr × Obj)) (σ : St) (Q : VK) (u : Value) (s' : Shared) : Prop := ∃ v H', Inv X pins σ H' s' ∧ RelV v u ∧ Q v H'
def TP (X : Cx) (pins : List (Addr × Obj)) (σ : St) (Q : Bool → Hp → Prop) (b : Bool) (s' : Shared) : Prop := ∃ H', Inv X pins σ H' s' ∧ Q b H'
def AP (X : Cx) (pins : List (Addr × Obj)) (σ : St) (Q : List V → Hp → Prop) (us : List Value) (s' : Shared) : Prop := ∃ vs H', Inv X pins σ H' s' ∧ Vals vs us ∧ Q vs H'
def SP (X : Cx) (pins : List (Addr × Obj)) (D : Ends) (f : Flow) (s' : Shared) : Prop :=
  match f with
  | .next => ∃ σ' H', Inv X pins σ' H' s' ∧ D.nx σ' H'
  | .brk => ∃ σ' H', Inv X pins σ' H' s' ∧ D.bk σ' H'
  | .cont => ∃ σ' H', Inv X pins σ' H' s' ∧ D.ct σ' H'
  | .ret u => ∃ v σ' H', Inv X pins σ' H' s' ∧ RelV v u ∧ D.rt v H'
def PE (X : Cx) (e : Expr) (t : TE) : Prop :=
  ∀ (pins : List (Addr × Obj)) (s : Shared) (σ : St) (H : Hp) (Q : VK), Inv X pins σ H s → t σ H Q → wpAny (model X.prog X.w) X.A (eval e X.env) (EP X pins σ Q) X.xe s
def PT (X : Cx) (e : Expr) (t : TT) : Prop :=
  ∀ (pins : List (Addr × Obj)) (s : Shared) (σ : St) (H : Hp) (Q : Bool → Hp → Prop), Inv X pins σ H s → t σ H Q → wpAny (model X.prog X.w) X.A (isTrue e X.env (eval e X.env)) (TP X pins σ Q) X.xe s
def PW (X : Cx) (e : Expr) (t : TT) : Prop :=
  ∀ (whole : Sem Value) (pins : List (Addr × Obj)) (s : Shared) (σ : St) (H : Hp) (Q : Bool → Hp → Prop), Inv X pins σ H s → t σ H Q → wpAny (model X.prog X.w) X.A (isTrue e X.env whole) (TP X pins σ Q) X.xe s
theorem PW.pt {X : Cx} {e : Expr} {t : TT} (h : PW X e t) : PT X e t := h _
def PA (X : Cx) (es : List Expr) (t : TA) : Prop :=
  ∀ (pos : Pos) (pins : List (Addr × Obj)) (s : Shared) (σ : St) (H : Hp) (Q : List V → Hp → Prop), Inv X pins σ H s → t σ H Q → wpAny (model X.prog X.w) X.A (spliced (backTo pos (starEach es X.env))) (AP X pins σ Q) X.xe s
def PS (X : Cx) (st : Stmt) (t : TS) : Prop :=
  ∀ (pins : List (Addr × Obj)) (s : Shared) (σ : St) (H : Hp) (D : Ends), Inv X pins σ H s → t D σ H → wpAny (model X.prog X.w) X.A (exec st X.env) (SP X pins D) X.xe s
def PSs (X : Cx) (st : List Stmt) (t : TS) : Prop :=
  ∀ (pins : List (Addr × Obj)) (s : Shared) (σ : St) (H : Hp) (D : Ends), Inv X pins σ H s → t D σ H → wpAny (model X.prog X.w) X.A (execs st X.env) (SP X pins D) X.xe s
theorem thn {α : Type} {t : Sem α} {Q Q' : α → Shared → Prop} {M : Model} {A : Around} {E : Value → Shared → Prop} {s : Shared} (h : wpAny M A t Q E s) (hQ : ∀ a s, Q a s → Q' a s) : wpAny M A t Q' E s := wpAny_mono h hQ fun _ _ x => x
end L2
namespace L2
open PySem PySem.Spec PyProof.Rows
section
variable {X : Cx}
def tVar (i : Nat) : TE := fun σ H Q => ∃ v, σ[i]? = some (some v) ∧ Q v H
def tC (v : V) : TE := fun _ H Q => Q v H
theorem pe_var {i : Nat} {x : Str} {pos : Pos} (hN : X.N[i]? = some x) (hv : Vis X.env.scope x) (hd : (x == ("__debug__" : Str)) = false := by decide) (hcd : (x == ("__classdict__" : Str)) = false := by decide) : PE X (.Name x pos) (tVar i) := by
  intro pins s σ H Q I h
  obtain ⟨v, e, h⟩ := h
  obtain ⟨m, hn, hl⟩ := I.loc
  obtain ⟨u, r, l⟩ := hl i x v hN e hv
  have fin : EP X pins σ Q u s := ⟨v, H, I, r, h⟩
  rcases l with ⟨hk, hm⟩ | ⟨hk, c, hc, hcell⟩
  · exact wpAny_Name (wpAny_loadName_local I.ok.kind hk hn hm fin) hd
  · rcases hk with hk | hk
    · exact wpAny_Name (wpAny_loadName_cell I.ok.kind hk hc hcell fin) hd
    · exact wpAny_Name (wpAny_loadName_free I.ok.kind hk hc hcell fin hcd) hd
theorem pe_int {i j pos} : PE X (.Constant (.int i) j pos) (tC (.int i)) := fun _ _ _ H _ I h => wpAny_Constant_int ⟨.int i, H, I.tok _, ⟨_, rfl⟩, h⟩
theorem pe_bl {b j pos} : PE X (.Constant (.bool b) j pos) (tC (.bl b)) := fun _ _ _ H _ I h => Constant_bool ⟨.bl b, H, I, rfl, h⟩
theorem pe_non {j pos} : PE X (.Constant .none j pos) (tC .non) := fun _ _ _ H _ I h => Constant_none ⟨.non, H, I, rfl, h⟩
def Gl (X : Cx) (x : Str) : Prop := X.env.kindOf x = some .globalImplicit
theorem ld_glob {E : Value → Shared → Prop} {pins : List (Addr × Obj)} {s : Shared} {σ : St} {H : Hp} {x : Str} {u : Value} {pos : Pos} {Q : Value → Shared → Prop} (I : Inv X pins σ H s) (hg : Gl X x) (hm : X.mg x = some u) (h : Q u s)
    (hd : (x == ("__debug__" : Str)) = false := by decide) : wpAny (model X.prog X.w) X.A (eval (.Name x pos) X.env) Q E s :=
  Calls.Name_function_global I.ok.kind hg (Calls.loadGlobal_global (by rw [I.ok.glob]; exact I.mod.glob.keeps I.bk) hm h) hd
theorem ld_blt {E : Value → Shared → Prop} {pins : List (Addr × Obj)} {s : Shared} {σ : St} {H : Hp} {x : Str} {u : Value} {pos : Pos} {Q : Value → Shared → Prop} (I : Inv X pins σ H s) (hg : Gl X x) (hm : X.mg x = none) (hv : bootBuiltins x = some u) (h : Q u s)
    (hn : x ≠ "__name__" := by decide) (hd : (x == ("__debug__" : Str)) = false := by decide) : wpAny (model X.prog X.w) X.A (eval (.Name x pos) X.env) Q E s := by
  obtain ⟨mb, h1, h2⟩ := I.mod.blt
  exact Calls.Name_function_global I.ok.kind hg (Calls.loadGlobal_builtin (by rw [I.ok.glob]; exact I.mod.glob.keeps I.bk) hm (by rw [I.ok.blt]; exact h1.keeps I.bk) ((h2 x hn).trans hv) h) hd
variable {a b : Expr} {ta tb : TE} {pos : Pos}
def PC (X : Cx) (op : CmpOp) (a b : Expr) (t : TE) : Prop :=
  ∀ (pins : List (Addr × Obj)) (s : Shared) (σ : St) (H : Hp) (Q : VK), Inv X pins σ H s → t σ H Q →
    wpAny (model X.prog X.w) X.A (eval a X.env) (fun v s₁ => wpAny (model X.prog X.w) X.A (eval b X.env) (fun u s₂ => wpAny (model X.prog X.w) X.A (compareOp op v u) (EP X pins σ Q) X.xe s₂) X.xe s₁) X.xe s
def tB (t : TE) : TT := fun σ H Q => t σ H fun x H1 => ∃ c, x = .bl c ∧ Q c H1
theorem pt_cmp {op : CmpOp} {t : TE} (h : PC X op a b t) (h1 : behindInMarks op b = false := by first | exact nobehind _ (by decide) (by decide) | rfl) : PT X (.Compare a [op] [b] pos) (tB t) := by
  intro pins s σ H Q I hw
  refine wpAny_isTrue_Compare1 (thn (h pins s σ H _ I hw) fun v s1 h1 => thn h1 fun u s2 h2 => thn h2 fun c s3 ⟨x, H1, I1, r1, q1⟩ => ?_) h1
  obtain ⟨d, rfl, q⟩ := q1
  cases r1
  exact wpAny_truthy_bool ⟨H1, I1, q⟩
theorem pt_val {e : Expr} {t : TE} (h : PE X e t) (he : ∀ whole, isTrue e X.env whole = (do let v ← whole; standAt e.pos; holding [v] (truthy v)) := by intro _; rfl) : PT X e (tB t) := by
  intro pins s σ H Q I hw
  refine isTrue_plain (thn (h pins s σ H _ I hw) fun v s1 ⟨x, H1, I1, r1, q1⟩ => ?_) (he _)
  obtain ⟨d, rfl, q⟩ := q1
  cases r1
  exact wpAny_truthy_bool ⟨H1, I1, q⟩
variable {tA tB' : TT} {rest : List Expr}
def tAnd (t u : TT) : TT := fun σ H Q => t σ H fun c H1 => if c = true then u σ H1 Q else Q false H1
def tOr (t u : TT) : TT := fun σ H Q => t σ H fun c H1 => if c = true then Q true H1 else u σ H1 Q
def tNot (t : TT) : TT := fun σ H Q => t σ H fun c H1 => Q (!c) H1
theorem pw_and1 (ha : PT X a tA) : PW X (.BoolOp .And [a] pos) tA := by
  intro wh pins s σ H Q I h
  refine isTrue_and (thn (ha pins s σ H Q I h) fun c s1 e => ?_)
  cases c with
  | true => exact isTrue_and_nil e
  | false => exact e
theorem pw_or1 (ha : PT X a tA) : PW X (.BoolOp .Or [a] pos) tA := by
  intro wh pins s σ H Q I h
  refine isTrue_or (thn (ha pins s σ H Q I h) fun c s1 e => ?_)
  cases c with
  | false => exact isTrue_or_nil e
  | true => exact e
theorem pw_and (ha : PT X a tA) (hb : PW X (.BoolOp .And (b :: rest) pos) tB') : PW X (.BoolOp .And (a :: b :: rest) pos) (tAnd tA tB') := by
  intro wh pins s σ H Q I h
  refine isTrue_and (thn (ha pins s σ H _ I h) fun c s1 ⟨H1, I1, q1⟩ => ?_)
  cases c with
  | true => exact hb wh pins s1 σ H1 Q I1 q1
  | false => exact ⟨H1, I1, q1⟩
theorem pw_or (ha : PT X a tA) (hb : PW X (.BoolOp .Or (b :: rest) pos) tB') : PW X (.BoolOp .Or (a :: b :: rest) pos) (tOr tA tB') := by
  intro wh pins s σ H Q I h
  refine isTrue_or (thn (ha pins s σ H _ I h) fun c s1 ⟨H1, I1, q1⟩ => ?_)
  cases c with
  | true => exact ⟨H1, I1, q1⟩
  | false => exact hb wh pins s1 σ H1 Q I1 q1
theorem pt_not (ha : PT X a tA) : PT X (.UnaryOp .Not a pos) (tNot tA) := by
  intro pins s σ H Q I h
  exact isTrue_not (ha pins s σ H (fun c H1 => Q (!c) H1) I h)
def tOrV (ta tb : TE) : TE := fun σ H Q => ta σ H fun x H1 => ∃ c, x = .bl c ∧ if c = true then Q (.bl true) H1 else tb σ H1 Q
theorem pe_one {op} {t : TE} (h : PE X a t) : PE X (.BoolOp op [a] pos) t := fun pins s σ H Q I hw => BoolOp_one (h pins s σ H Q I hw)
theorem pe_or (ha : PE X a ta) (hb : PE X (.BoolOp .Or (b :: rest) pos) tb) : PE X (.BoolOp .Or (a :: b :: rest) pos) (tOrV ta tb) := by
  intro pins s σ H Q I h
  refine BoolOp_or (thn (ha pins s σ H _ I h) fun v s1 ⟨x, H1, I1, r1, q1⟩ => ?_)
  obtain ⟨c, rfl, q1⟩ := q1
  cases r1
  refine wpAny_truthy_bool ?_
  cases c with
  | false => exact hb pins s1 σ H1 Q I1 q1
  | true => exact ⟨.bl true, H1, I1, rfl, q1⟩
end
end L2
namespace L2
open PySem PySem.Spec PyProof.Rows
def SqL (K : PySem.W.Frag) (H : Hp) (a : Addr) (xs : List V) : Prop :=
  Rd H a (.lst xs) ∨
    ∃ (o : Obj) (its : Array Value) (n : Nat), K.lookup a = some o ∧ o.cls = .type "list" ∧ o.dict = none ∧ o.data = .seq its n ∧ its.size ≤ sizeLine ∧ Vals xs its.toList
def SqT (K : PySem.W.Frag) (H : Hp) (a : Addr) (xs : List V) : Prop :=
  Rd H a (.tup xs) ∨
    ∃ (o : Obj) (its : Array Value) (n : Nat), K.lookup a = some o ∧ o.cls = .type "tuple" ∧ o.data = .seq its n ∧ its.size ≤ sizeLine ∧ Vals xs its.toList
def absV : Value → Option V
  | .none => some .non
  | .bool b => some (.bl b)
  | .int i _ => some (.int i)
  | .str x _ => some (.str x)
  | .bytes b _ => some (.byt b)
  | .float b _ => some (.flt b)
  | .ref a => some (.ref a)
  | .type n => some (.ty n)
  | _ => none
theorem RelV.abs {x : V} {u : Value} (r : RelV x u) : absV u = some x := by
  cases x with
  | non => cases r; rfl
  | bl _ => cases r; rfl
  | int _ => obtain ⟨t, rfl⟩ := r; rfl
  | str _ => obtain ⟨t, rfl⟩ := r; rfl
  | byt _ => obtain ⟨t, rfl⟩ := r; rfl
  | flt _ => obtain ⟨t, rfl⟩ := r; rfl
  | ref _ => cases r; rfl
  | ty _ => cases r; rfl
theorem RelV.inj {x y : V} {u : Value} (r : RelV x u) (q : RelV y u) : x = y := Option.some.inj (r.abs.symm.trans q.abs)
theorem Vals.inj : ∀ {xs ys : List V} {us : List Value}, Vals xs us → Vals ys us → xs = ys
  | _, _, _, .nil, .nil => rfl
  | _, _, _, .cons r t, .cons r' t' => by rw [r.inj r', Vals.inj t t']
section
variable {X : Cx} {pins : List (Addr × Obj)} {σ : St} {H : Hp} {s : Shared} {a : Addr} {xs ys : List V}
theorem SqL.of {K : PySem.W.Frag} (h : H a = some (.lst xs)) : SqL K H a xs := .inl (.inl h)
theorem SqT.of {K : PySem.W.Frag} (h : H a = some (.tup xs)) : SqT K H a xs := .inl (.inl h)
theorem Inv.list (I : Inv X pins σ H s) (h : SqL X.K H a xs) : ∃ its : List Value, Vals xs its ∧ PlainL s.heap a its.toArray ∧ xs.length ≤ sizeLine := by
  rcases h with h | ⟨o, its, n, hk, hc, hd, hs, hz, r⟩
  · obtain ⟨z, its, n, r, e⟩ := h.ok I.hok
    exact ⟨its, r, ⟨_, n, e, rfl, rfl, rfl⟩, z⟩
  · refine ⟨its.toList, r, ⟨o, n, I.kIn a o hk, hc, hd, by simpa using hs⟩, ?_⟩
    have e := r.length
    simp only [Array.length_toList] at e
    omega
theorem Inv.tuple (I : Inv X pins σ H s) (h : SqT X.K H a xs) : ∃ its : List Value, Vals xs its ∧ IsTup s.heap a its.toArray ∧ xs.length ≤ sizeLine := by
  rcases h with h | ⟨o, its, n, hk, hc, hs, hz, r⟩
  · obtain ⟨z, its, r, p⟩ := h.ok I.hok
    exact ⟨its, r, p, z⟩
  · refine ⟨its.toList, r, ⟨o, I.kIn a o hk, hc, n, by simpa using hs⟩, ?_⟩
    have e := r.length
    simp only [Array.length_toList] at e
    omega
theorem Inv.list_inj (I : Inv X pins σ H s) (h : SqL X.K H a xs) (h' : SqL X.K H a ys) : xs = ys := by
  obtain ⟨its, r, ⟨o, n, e, _, _, d⟩, _⟩ := I.list h
  obtain ⟨its', r', ⟨o', n', e', _, _, d'⟩, _⟩ := I.list h'
  rw [e] at e'; cases e'
  rw [d] at d'
  injection d' with d1 _
  have : its = its' := by simpa using congrArg Array.toList d1
  subst this
  exact r.inj r'
theorem Inv.tuple_inj (I : Inv X pins σ H s) (h : SqT X.K H a xs) (h' : SqT X.K H a ys) : xs = ys := by
  obtain ⟨its, r, ⟨o, e, _, n, d⟩, _⟩ := I.tuple h
  obtain ⟨its', r', ⟨o', e', _, n', d'⟩, _⟩ := I.tuple h'
  rw [e] at e'; cases e'
  rw [d] at d'
  injection d' with d1 _
  have : its = its' := by simpa using congrArg Array.toList d1
  subst this
  exact r.inj r'
end
abbrev Cx.wish (X : Cx) (E : Value → Shared → Prop) : Cx := { X with xe := E }
abbrev Cx.nox (X : Cx) : Cx := X.wish fun _ _ => False
theorem Cx.Ok.wish {X : Cx} (ok : X.Ok) (E : Value → Shared → Prop) : (X.wish E).Ok :=
  ⟨ok.mod, ok.kind, ok.glob, ok.blt, ok.above, ok.inj, ok.has, ok.cab, ok.hd, ok.frames, ok.stk, ok.exf, ok.bs, ok.bsz, ok.noex, ok.exfs, ok.funs, ok.frf⟩
theorem Cx.Ok.unwish {X : Cx} {E : Value → Shared → Prop} (ok : (X.wish E).Ok) : X.Ok :=
  ⟨ok.mod, ok.kind, ok.glob, ok.blt, ok.above, ok.inj, ok.has, ok.cab, ok.hd, ok.frames, ok.stk, ok.exf, ok.bs, ok.bsz, ok.noex, ok.exfs, ok.funs, ok.frf⟩
section
variable {X : Cx} {pins : List (Addr × Obj)} {σ : St} {H : Hp} {s : Shared} {E : Value → Shared → Prop}
theorem Inv.wish (I : Inv X pins σ H s) (E : Value → Shared → Prop) : Inv (X.wish E) pins σ H s := ⟨I.ok.wish E, I.os, I.bare, I.base, I.loc, I.cell, I.free, I.freeC, I.pin, I.hok, I.len⟩
theorem Inv.unwish (I : Inv (X.wish E) pins σ H s) : Inv X pins σ H s := ⟨I.ok.unwish, I.os, I.bare, I.base, I.loc, I.cell, I.free, I.freeC, I.pin, I.hok, I.len⟩
theorem SP.unwish {D : Ends} {f : Flow} {s' : Shared} (h : SP (X.wish E) pins D f s') : SP X pins D f s' := by
  cases f with
  | next => obtain ⟨σ', H', I, q⟩ := h; exact ⟨σ', H', I.unwish, q⟩
  | brk => obtain ⟨σ', H', I, q⟩ := h; exact ⟨σ', H', I.unwish, q⟩
  | cont => obtain ⟨σ', H', I, q⟩ := h; exact ⟨σ', H', I.unwish, q⟩
  | ret u => obtain ⟨v, σ', H', I, r, q⟩ := h; exact ⟨v, σ', H', I.unwish, r, q⟩
theorem PSs.nox {st : List Stmt} {t : TS} (h : PSs X.nox st t) : PSs X st t := fun pins s σ H D I hw =>
  wpAny_mono (h pins s σ H D (I.wish _) hw) (fun _ _ q => q.unwish) fun _ _ z => False.elim z
end
section
variable {X : Cx} {st : Stmt} {rest : List Stmt} {t u : TS} {e : Expr} {te : TE} {pos : Pos}
def tNext : TS := fun D σ H => D.nx σ H
def tSeq (t u : TS) : TS := fun D σ H => t { D with nx := u D } σ H
theorem pss_nil : PSs X [] tNext := fun _ _ σ H _ I h => wpAny_execs_nil ⟨σ, H, I, h⟩
theorem pss_cons (h1 : PS X st t) (h2 : PSs X rest u) : PSs X (st :: rest) (tSeq t u) := by
  intro pins s σ H D I h
  refine wpAny_execs_cons (thn (h1 pins s σ H { D with nx := u D } I h) fun f s1 q => ?_)
  cases f with
  | next =>
    obtain ⟨σ', H', I', q⟩ := q
    exact h2 pins s1 σ' H' D I' q
  | ret v => exact q
  | brk => exact q
  | cont => exact q
theorem pss_one (h1 : PS X st t) : PSs X [st] t := by
  intro pins s σ H D I h
  refine wpAny_execs_cons (thn (h1 pins s σ H D I h) fun f s1 q => ?_)
  cases f with
  | next => exact wpAny_execs_nil q
  | ret v => exact q
  | brk => exact q
  | cont => exact q
theorem Inv.quiet {pins : List (Addr × Obj)} {σ : St} {H : Hp} {s : Shared} (I : Inv X pins σ H s) : interactive X.env = false := by simp [interactive, I.ok.kind]
def tDrop (te : TE) : TS := fun D σ H => te σ H fun _ H1 => D.nx σ H1
theorem ps_expr (he : PE X e te) (hs : swapsWith e none pos.line X.env = pure false := by rfl) : PS X (.Expr e pos) (tDrop te) := by
  intro pins s σ H D I h
  exact wpAny_Expr_any (thn (he pins s σ H _ I h) fun v s1 ⟨x, H1, I1, r1, q1⟩ => ⟨σ, H1, I1, q1⟩) I.quiet hs
def tRet (te : TE) : TS := fun D σ H => te σ H D.rt
theorem ps_ret (he : PE X e te) : PS X (.Return (some e) pos) (tRet te) := by
  intro pins s σ H D I h
  exact wpAny_Return_some (thn (he pins s σ H _ I h) fun v s1 ⟨x, H1, I1, r1, q1⟩ => ⟨x, σ, H1, I1, r1, q1⟩)
def tIfS (c : TT) (t u : TS) : TS := fun D σ H => c σ H fun b H1 => if b = true then t D σ H1 else u D σ H1
theorem ps_if {c : Expr} {a b : List Stmt} {tc : TT} (hc : PT X c tc) (ha : PSs X a t) (hb : PSs X b u) : PS X (.If c a b pos) (tIfS tc t u) := by
  intro pins s σ H D I h
  refine wpAny_If (thn (hc pins s σ H _ I h) fun d s1 ⟨H1, I1, q1⟩ => ?_)
  cases d with
  | true => exact ha pins s1 σ H1 D I1 q1
  | false => exact hb pins s1 σ H1 D I1 q1
def tNever : TS := fun _ _ _ => False
theorem ps_never : PS X st tNever := fun _ _ _ _ _ _ h => h.elim
end
abbrev TG := V → St → Hp → (St → Hp → Prop) → Prop
abbrev TGs := List V → St → Hp → (St → Hp → Prop) → Prop
def PG (X : Cx) (target : Expr) (t : TG) : Prop :=
  ∀ (pins : List (Addr × Obj)) (s : Shared) (σ : St) (H : Hp) (v : V) (u : Value) (Q : St → Hp → Prop), Inv X pins σ H s → RelV v u → t v σ H Q →
    wpAny (model X.prog X.w) X.A (assign target X.env u) (fun _ s' => ∃ σ' H', Inv X pins σ' H' s' ∧ Q σ' H') X.xe s
def PGs (X : Cx) (ts : List Expr) (t : TGs) : Prop :=
  ∀ (pins : List (Addr × Obj)) (s : Shared) (σ : St) (H : Hp) (vs : List V) (us : List Value) (Q : St → Hp → Prop), Inv X pins σ H s → Vals vs us → t vs σ H Q →
    wpAny (model X.prog X.w) X.A (assignInOrder ((assignEach ts X.env).map (·.2)) us) (fun _ s' => ∃ σ' H', Inv X pins σ' H' s' ∧ Q σ' H') X.xe s
abbrev TSet := V → V → V → Hp → (Hp → Prop) → Prop
def PSet (X : Cx) (t : TSet) : Prop :=
  ∀ (pins : List (Addr × Obj)) (s : Shared) (σ : St) (H : Hp) (o i v : V) (ov iv u : Value) (Q : Hp → Prop), Inv X pins σ H s → RelV o ov → RelV i iv → RelV v u → t o i v H Q →
    wpAny (model X.prog X.w) X.A (setItem ov iv u) (fun _ s' => ∃ H', Inv X pins σ H' s' ∧ Q H') X.xe s
section
variable {X : Cx} {pos : Pos}
def gName (i : Nat) : TG := fun v σ H Q => Q (σ.set i (some v)) H
theorem pg_name {i : Nat} {x : Str} (hN : X.N.Nodup) (hi : X.N[i]? = some x) (hx : Loc X.env.scope x) (hf : X.fn x = true ∨ X.env.scope.names.lookup x = some .local := by first | exact .inl rfl | exact .inr rfl | assumption) : PG X (.Name x pos) (gName i) := by
  intro pins s σ H v u Q I r h
  exact wpAny_assign_Name (store_ok I hN hi hx r (fun s' I' => ⟨_, H, I', h⟩) hf)
def gNil : TGs := fun vs σ H Q => vs = [] ∧ Q σ H
def gCons (t : TG) (u : TGs) : TGs := fun vs σ H Q => ∃ v r, vs = v :: r ∧ t v σ H fun σ' H' => u r σ' H' Q
theorem pgs_nil : PGs X [] gNil := by
  intro pins s σ H vs us Q I r h
  obtain ⟨e, h⟩ := h
  subst e
  cases r
  exact assignInOrder_nil ⟨σ, H, I, h⟩
theorem pgs_cons {e : Expr} {es : List Expr} {t : TG} {u : TGs} (h1 : PG X e t) (h2 : PGs X es u)
    (hs : (assignEach (e :: es) X.env).map (·.2) = assign e X.env :: (assignEach es X.env).map (·.2) := by rfl) : PGs X (e :: es) (gCons t u) := by
  intro pins s σ H vs us Q I r h
  obtain ⟨v, vr, e1, h⟩ := h
  subst e1
  cases r with
  | cons r rr =>
    rw [hs]
    refine assignInOrder_cons (thn (h1 pins s σ H _ _ _ I r h) fun _ s1 ⟨σ1, H1, I1, q1⟩ => ?_)
    exact h2 pins s1 σ1 H1 _ _ Q I1 rr q1
def gTup (K : PySem.W.Frag) (n : Nat) (t : TGs) : TG := fun v σ H Q => ∃ a xs, v = .ref a ∧ SqT K H a xs ∧ xs.length = n ∧ t xs σ H Q
theorem pg_tup {es : List Expr} {k : Nat} {t : TGs} {n : Nat} (hc : X.calm = true) (h : PGs X es t)
    (hn : (assignEach es X.env).length = n := by rfl) (hst : (assignEach es X.env).findIdx? (·.1) = none := by rfl) : PG X (.Tuple es k pos) (gTup X.K n t) := by
  intro pins s σ H v u Q I r hw
  obtain ⟨a, xs, e1, hq, hl, hw⟩ := hw
  subst e1
  cases r
  obtain ⟨its, rv, ht, hz⟩ := I.tuple hq
  refine assign_Tuple_tuple (I.ok.hd hc) ht (by simp [hn, ← hl, rv.length]) hst fun h' hx => ?_
  have I1 : Inv X pins σ H { s with heap := h' } := I.kept (t' := s.toks) fun b o e => hx b o (Nat.ne_of_lt (Heap.lt_size e)) e
  exact h pins _ σ H xs _ Q I1 (by simpa using rv) hw
def gSub (to ti : TE) (t : TSet) : TG := fun v σ H Q => to σ H fun o H1 => ti σ H1 fun i H2 => t o i v H2 fun H3 => Q σ H3
theorem pg_sub {o i : Expr} {to ti : TE} {t : TSet} (ho : PE X o to) (hi : PE X i ti) (hs : PSet X t)
    (ha : ∀ v, assign (.Subscript o i pos) X.env v = (do
      let ov ← holding [v] (eval o X.env)
      let iv ← holding [v, ov] (eval i X.env)
      standAt pos
      holding [v, ov, iv] (setItem ov iv v)
      release [v, ov, iv] []) := by intro _; rfl) : PG X (.Subscript o i pos) (gSub to ti t) := by
  intro pins s σ H v u Q I r h
  rw [ha]
  refine wpAny_bind (wpAny_holding (thn (ho pins s σ H _ I h) fun ov s1 ⟨x, H1, I1, r1, q1⟩ => ?_))
  refine wpAny_bind (wpAny_holding (thn (hi pins s1 σ H1 _ I1 q1) fun iv s2 ⟨y, H2, I2, r2, q2⟩ => ?_))
  refine wpAny_bind (wpAny_standAt (wpAny_bind (wpAny_holding (thn (hs pins s2 σ H2 x y v ov iv u _ I2 r1 r2 r q2) fun _ s3 ⟨H3, I3, q3⟩ => ?_))))
  exact wpAny_release ⟨σ, H3, I3, q3⟩
def tAsg (te : TE) (g : TG) : TS := fun D σ H => te σ H fun x H1 => g x σ H1 D.nx
theorem ps_asg {tg e : Expr} {te : TE} {g : TG} (he : PE X e te) (hg : PG X tg g) (hs : swapsWithSole [tg] e pos.line X.env = pure false := by rfl) (hw : swappedStores [tg] e X.env = pure none := by rfl)
    (h1 : (assignEach [tg] X.env).map (·.2) = [assign tg X.env] := by rfl) : PS X (.Assign [tg] e pos) (tAsg te g) := by
  intro pins s σ H D I h
  refine wpAny_Assign_stores (thn (he pins s σ H _ I h) fun v s1 ⟨x, H1, I1, r1, q1⟩ => ?_) hs hw
  rw [h1]
  exact thn (hg pins s1 σ H1 x v _ I1 r1 q1) fun _ s2 q => q
theorem ps_set {i : Nat} {x : Str} {e : Expr} {te : TE} {pos' : Pos} (hN : X.N.Nodup) (hi : X.N[i]? = some x) (hx : Loc X.env.scope x) (he : PE X e te) (hs : swapsWith e (some (.Name x pos')) pos.line X.env = pure false := by rfl) (hf : X.fn x = true ∨ X.env.scope.names.lookup x = some .local := by first | exact .inl rfl | exact .inr rfl | assumption) :
    PS X (.Assign [.Name x pos'] e pos) (tAsg te (gName i)) := by
  intro pins s σ H D I h
  refine wpAny_Assign_Name (thn (he pins s σ H _ I h) fun v s1 ⟨y, H1, I1, r1, q1⟩ => ?_) hs
  exact store_ok I1 hN hi hx r1 (fun s2 I2 => ⟨_, H1, I2, q1⟩) hf
end
section
variable {X : Cx} {pos : Pos}
end
structure It where
  go : Nat → Hp → Prop
  yld : Nat → Hp → V → Hp → Prop
  stop : Nat → Hp → Prop
def FpOk (X : Cx) (pins : List (Addr × Obj)) (H : Hp) (b : Addr) : Prop :=
  H b = none ∧ b ≠ X.env.locals ∧ b ∉ X.fs ∧ (b ∈ X.ex ∨ X.s₀.heap.objs.size ≤ b) ∧ (∀ x c, X.env.cells.lookup x = some c → c ≠ b) ∧ ∀ p ∈ X.pn ++ pins, p.1 ≠ b
theorem Inv.fpOk {X : Cx} {pins : List (Addr × Obj)} {σ : St} {H H' : Hp} {s : Shared} {b : Addr} (I : Inv X pins σ H s) (hb : s.heap.objs.size ≤ b) (hn : H' b = none) : FpOk X pins H' b := by
  refine ⟨hn, Nat.ne_of_gt (Nat.lt_of_lt_of_le I.lt hb), I.nofs hb, .inr (Nat.le_trans I.sz hb), fun x c e z => ?_, fun p hp z => ?_⟩
  · obtain ⟨v, q⟩ := I.cell x c e
    exact absurd (Nat.lt_of_lt_of_le q.lt (by rw [z]; exact hb)) (Nat.lt_irrefl _)
  · exact absurd (Nat.lt_of_lt_of_le (Heap.lt_size (I.pin p hp).1) (by rw [z]; exact hb)) (Nat.lt_irrefl _)
structure Turn (P : Program) (w : World) (K : PySem.W.Frag) (tg : Expr) (J : It) (fp : List Addr) (it : Addr) (tn : Nat → Heap → Prop) : Prop where
  mem : it ∈ fp
  obj : ∀ i h, tn i h → ∀ b ∈ fp, ∃ o, h.get? b = some o ∧ ∀ v, o.data ≠ .cell v
  keep : ∀ i h h', tn i h → (∀ b ∈ fp, ∀ o, h.get? b = some o → h'.get? b = some o) → tn i h'
  item : ∀ (X : Cx), X.prog = P → X.w = w → X.K = K → X.calm = true → ∀ (i : Nat) (pins : List (Addr × Obj)) (s : Shared) (σ : St) (H : Hp) (E : Value → Shared → Prop), Inv X pins σ H s → (∀ b ∈ fp, FpOk X pins H b) → tn i s.heap → J.go i H →
    wpAny (model P w) X.A (pyNext (.ref it)) (fun r s1 => ∃ u, r = some u ∧
      wpAny (model P w) X.A (letOwnedTupleGo tg (.ref it) u) (fun _ s2 => ∃ x H', Inv X pins σ H' s2 ∧ RelV x u ∧ J.yld i H x H' ∧ tn (i + 1) s2.heap ∧ ∀ b ∈ fp, H' b = none) E s1) E s
  done : ∀ (X : Cx), X.prog = P → X.w = w → X.K = K → X.calm = true → ∀ (i : Nat) (pins : List (Addr × Obj)) (s : Shared) (σ : St) (H : Hp) (E : Value → Shared → Prop), Inv X pins σ H s → (∀ b ∈ fp, FpOk X pins H b) → tn i s.heap → J.stop i H →
    wpAny (model P w) X.A (pyNext (.ref it)) (fun r s1 => r = none ∧ Inv X pins σ H s1) E s
  self : ∀ (A : Around) (i : Nat) (s : Shared) (Q : Value → Shared → Prop) (E : Value → Shared → Prop), tn i s.heap → Q (.ref it) s → wpAny (model P w) A (pyIter (.ref it)) Q E s
abbrev TI := St → Hp → (It → Hp → Prop) → Prop
def PIE (X : Cx) (pins : List (Addr × Obj)) (σ : St) (tg : Expr) (R : It → Hp → Prop) (itv : Value) (s2 : Shared) : Prop :=
  ∃ (it : Addr) (fp : List Addr) (tn : Nat → Heap → Prop) (J : It) (H' : Hp), itv = .ref it ∧ Inv X pins σ H' s2 ∧ Turn X.prog X.w X.K tg J fp it tn ∧ tn 0 s2.heap ∧ (∀ b ∈ fp, FpOk X pins H' b) ∧ R J H'
def PI (X : Cx) (tg iter : Expr) (wi : TI) : Prop :=
  ∀ (pins : List (Addr × Obj)) (s : Shared) (σ : St) (H : Hp) (R : It → Hp → Prop), Inv X pins σ H s → wi σ H R →
    wpAny (model X.prog X.w) X.A (eval iter X.env) (fun v s1 => wpAny (model X.prog X.w) X.A (pyIter v) (PIE X pins σ tg R) X.xe s1) X.xe s
theorem go_of {M : Model} {A : Around} {E : Value → Shared → Prop} {s : Shared} {tg : Expr} {it : Addr} {u : Value} {o : Obj} {n : String} {vs : Array Value} {Q : Unit → Shared → Prop} (ho : s.heap.get? it = some o) (hc : o.cls = .type n) (hd : o.data = .fields vs)
    (hn : ["enumerate", "zip", "dict_itemiterator", "dict_reverseitemiterator", "odict_iterator", "itertools.zip_longest", "itertools.pairwise"].contains n = false) (hQ : Q () s) : wpAny M A (letOwnedTupleGo tg (.ref it) u) Q E s := by
  unfold letOwnedTupleGo
  cases tg <;> first
    | exact wpAny_pure hQ
    | (cases u <;> first
        | exact wpAny_pure hQ
        | (refine wpAny_bind (wpAny_load ho ?_)
           rw [hc, hd]
           show wpAny M A (if (["enumerate", "zip", "dict_itemiterator", "dict_reverseitemiterator", "odict_iterator", "itertools.zip_longest", "itertools.pairwise"].contains n && vs[0]? == some (rawInt _)) = true then _ else _) Q E s
           rw [if_neg (by intro h; rw [hn, Bool.false_and] at h; cases h)]
           exact wpAny_pure hQ))
def Itl (K : PySem.W.Frag) (a : Addr) : It :=
  ⟨fun i H => ∃ xs x, SqL K H a xs ∧ xs[i]? = some x, fun i H x H' => H' = H ∧ ∀ xs, SqL K H a xs → xs[i]? = some x, fun i H => ∃ xs, SqL K H a xs ∧ xs.length ≤ i⟩
def Itr (lo : Int) (n : Nat) : It := ⟨fun i _ => i < n, fun i H x H' => H' = H ∧ x = .int (lo + i), fun i _ => n ≤ i⟩
theorem turn_list {P : Program} {w : World} {K : PySem.W.Frag} {tg : Expr} (a it : Addr) : Turn P w K tg (Itl K a) [it] it (fun i h => h.IsListIter it a i) where
  mem := by simp
  obj := fun i h st b hb => by
    have e : b = it := by simpa using hb
    subst e
    obtain ⟨o, e, c, d⟩ := st
    exact ⟨o, e, fun v z => by rw [d] at z; cases z⟩
  keep := fun i h h' st k => st.at fun o e => k it (by simp) o e
  item := by
    intro X hP hw hK hc i pins s σ H E I hf st hg
    subst hP hw hK
    obtain ⟨xs, x, hq, hx⟩ := hg
    obtain ⟨its, rv, p, hz⟩ := I.list hq
    obtain ⟨u, hu, ru⟩ := rv.get hx
    obtain ⟨f0, f1, f2, f3, f4, f5⟩ := hf it (by simp)
    refine wpAny_pyNext_list_item st p.isList (x := u) (by simpa using hu) fun h' st' sb => ?_
    have I1 : Inv X pins σ H { s with heap := h' } := I.turned (t' := s.toks) (fun b o hb e => (sb.2 b hb).trans e) f0 f1 f3 f4 f5
    obtain ⟨o, e, c, d⟩ := id st'
    exact ⟨u, rfl, go_of (s := { s with heap := h' }) e c d (by decide) ⟨x, H, I1, ru, ⟨rfl, fun ys hy => by rw [I.list_inj hy hq]; exact hx⟩, st', fun b hb => (hf b hb).1⟩⟩
  done := by
    intro X hP hw hK hc i pins s σ H E I hf st hg
    subst hP hw hK
    obtain ⟨xs, hq, hx⟩ := hg
    obtain ⟨its, rv, p, hz⟩ := I.list hq
    obtain ⟨f0, f1, f2, f3, f4, f5⟩ := hf it (by simp)
    have hl := rv.length
    exact wpAny_pyNext_list_end (I.ok.hd hc) st p.isList (by simp; omega) fun h' eb => ⟨rfl, I.turned (t' := s.toks) (fun b o hb e => eb b o hb e) f0 f1 f3 f4 f5⟩
  self := fun _ _ _ _ _ st h => wpAny_pyIter_listiter st h
theorem turn_range {P : Program} {w : World} {K : PySem.W.Frag} {tg : Expr} (it : Addr) (lo : Int) (n : Nat) : Turn P w K tg (Itr lo n) [it] it (fun i h => IsRangeIter h it (lo + (i : Nat) * 1) ((n : Int) - (i : Nat)) 1) where
  mem := by simp
  obj := fun i h st b hb => by
    have e : b = it := by simpa using hb
    subst e
    exact ⟨_, st, fun v z => by
      have z' : Data.fields _ = Data.cell v := z
      cases z'⟩
  keep := fun i h h' st k => k it (by simp) _ st
  item := by
    intro X hP hw hK hc i pins s σ H E I hf st hg
    subst hP hw hK
    obtain ⟨f0, f1, f2, f3, f4, f5⟩ := hf it (by simp)
    have W := Walks.range (prog := X.prog) (w := X.w) (I.ok.hd hc) it lo 1 n
    refine W.item i s _ _ hg st fun v h' tk hv st' kk => ?_
    obtain ⟨t, rfl⟩ := hv
    have I1 : Inv X pins σ H { s with heap := h', toks := tk } := I.turned (fun b o hb e => kk b o (by simpa using hb) e) f0 f1 f3 f4 f5
    refine ⟨_, rfl, go_of (s := { s with heap := h', toks := tk }) (n := "range_iterator") st' rfl rfl (by decide) ⟨.int (lo + i), H, I1, ⟨t, ?_⟩, ⟨rfl, rfl⟩, st', fun b hb => (hf b hb).1⟩⟩
    rw [Int.mul_one]
  done := by
    intro X hP hw hK hc i pins s σ H E I hf st hg
    subst hP hw hK
    obtain ⟨f0, f1, f2, f3, f4, f5⟩ := hf it (by simp)
    exact wpAny_pyNext_range_end (I.ok.hd hc) st (by have : n ≤ i := hg; omega) fun h' eb => ⟨rfl, I.turned (t' := s.toks) (fun b o hb e => eb b o hb e) f0 f1 f3 f4 f5⟩
  self := fun _ _ _ _ _ st h => wpAny_pyIter_rangeiter st h
end L2
namespace L2
open PySem PySem.Spec PyProof.Rows
section
variable {X : Cx} {tg : Expr}
def iList (K : PySem.W.Frag) (tl : TE) : TI := fun σ H R => tl σ H fun x H1 => ∃ a, x = .ref a ∧ (∃ xs, SqL K H1 a xs) ∧ R (Itl K a) H1
theorem pi_list {l : Expr} {tl : TE} (hl : PE X l tl) : PI X tg l (iList X.K tl) := by
  intro pins s σ H R I h
  refine thn (hl pins s σ H _ I h) fun v s1 ⟨x, H1, I1, r1, q1⟩ => ?_
  obtain ⟨a, e, ⟨xs, hq⟩, q⟩ := q1
  subst e
  cases r1
  obtain ⟨its, rv, p, hz⟩ := I1.list hq
  refine wpAny_pyIter_list p.isList ?_
  refine ⟨s1.heap.objs.size, [s1.heap.objs.size], _, _, H1, rfl, I1.kept (t' := s1.toks) fun b o e => Heap.get?_push_of_some _ e, turn_list a _, ⟨_, Heap.get?_push_size _ rfl, rfl, rfl⟩, fun b hb => ?_, q⟩
  have e : b = s1.heap.objs.size := by simpa using hb
  subst e
  exact I1.fpOk (Nat.le_refl _) (I1.hok.fresh (Nat.le_refl _))
theorem range_it {pins : List (Addr × Obj)} {σ : St} {H : Hp} {s : Shared} {R : It → Hp → Prop} {E : Value → Shared → Prop} {lo hi : Int} {t u v : Tok} {tk : Nat} (I : Inv X pins σ H s) (h1 : -(2 ^ 62) ≤ lo) (h2 : lo < 2 ^ 62) (h3 : -(2 ^ 62) ≤ hi) (h4 : hi < 2 ^ 62)
    (q : R (Itr lo (hi - lo).toNat) H) : wpAny (model X.prog X.w) X.A (pyIter (.ref s.heap.objs.size)) (PIE X pins σ tg R) E { s with heap := s.heap.push { cls := .type "range", data := .fields #[.int lo t, .int hi u, .int 1 v] }, toks := tk } := by
  refine wpAny_pyIter_range (IsRange.new ..) (small_one h1 h2 h3 h4) ?_
  have I1 : Inv X pins σ H { s with heap := s.heap.push { cls := .type "range", data := .fields #[.int lo t, .int hi u, .int 1 v] }, toks := tk } := I.kept fun b o e => Heap.get?_push_of_some _ e
  refine ⟨(s.heap.push { cls := .type "range", data := .fields #[.int lo t, .int hi u, .int 1 v] }).objs.size, [(s.heap.push { cls := .type "range", data := .fields #[.int lo t, .int hi u, .int 1 v] }).objs.size], _, _, H, rfl,
    I1.kept (t' := tk) fun b o e => Heap.get?_push_of_some _ e, turn_range _ lo (hi - lo).toNat, ?_, fun b hb => ?_, q⟩
  · have e1 : lo + ((0 : Nat) : Int) * 1 = lo := by simp
    have e2 : (((hi - lo).toNat : Nat) : Int) - ((0 : Nat) : Int) = Builtin.Range.rangeSize lo hi 1 := by rw [rangeSize_one]; split <;> omega
    show IsRangeIter _ _ (lo + ((0 : Nat) : Int) * 1) ((((hi - lo).toNat : Nat) : Int) - ((0 : Nat) : Int)) 1
    rw [e1, e2]
    exact Heap.get?_push_size _ rfl
  · have e : b = (s.heap.push { cls := .type "range", data := .fields #[.int lo t, .int hi u, .int 1 v] }).objs.size := by simpa using hb
    subst e
    exact I1.fpOk (Nat.le_refl _) (I1.hok.fresh (Nat.le_refl _))
def iRng1 (ta : TA) : TI := fun σ H R => ta σ H fun vs H1 => ∃ j : Int, vs = [.int j] ∧ -(2 ^ 62) ≤ j ∧ j < 2 ^ 62 ∧ R (Itr 0 j.toNat) H1
def iRng2 (ta : TA) : TI := fun σ H R => ta σ H fun vs H1 => ∃ i j : Int, vs = [.int i, .int j] ∧ (-(2 ^ 62) ≤ i ∧ i < 2 ^ 62 ∧ -(2 ^ 62) ≤ j ∧ j < 2 ^ 62) ∧ R (Itr i (j - i).toNat) H1
theorem pi_range1 {a : Expr} {ta : TA} {p pos : Pos} (hg : Gl X "range") (hm : X.mg "range" = none) (ha : PA X [a] ta) (hs : starEach [a] X.env = [(false, eval a X.env)] := by rfl) : PI X tg (.Call (.Name "range" p) [a] [] pos) (iRng1 ta) := by
  intro pins s σ H R I h
  refine Call_ (ld_blt I hg hm boot_range (PyProof.Rows.callWith_type1 (thn (ha pos pins s σ H _ I h) fun us s1 ⟨vs, H1, I1, r1, q1⟩ => ?_) hs rfl))
  obtain ⟨j, e, q1, q2, q⟩ := q1
  subst e
  cases r1 with
  | cons r rr =>
    cases rr
    obtain ⟨t, rfl⟩ := r
    exact call_range_1 (range_it I1 (by omega) (by omega) q1 q2 (by simpa using q))
theorem pi_range2 {a b : Expr} {ta : TA} {p pos : Pos} (hg : Gl X "range") (hm : X.mg "range" = none) (ha : PA X [a, b] ta) (hs : starEach [a, b] X.env = [(false, eval a X.env), (false, eval b X.env)] := by rfl) (hs2 : starEach [b] X.env = [(false, eval b X.env)] := by rfl) :
    PI X tg (.Call (.Name "range" p) [a, b] [] pos) (iRng2 ta) := by
  intro pins s σ H R I h
  refine Call_ (ld_blt I hg hm boot_range (PyProof.Rows.callWith_type1 (thn (ha pos pins s σ H _ I h) fun us s1 ⟨vs, H1, I1, r1, q1⟩ => ?_) (by rw [hs, hs2]) (by rw [hs2]; rfl)))
  obtain ⟨i, j, e, ⟨q1, q2, q3, q4⟩, q⟩ := q1
  subst e
  cases r1 with
  | cons r rr =>
    cases rr with
    | cons r' rr =>
      cases rr
      obtain ⟨t, rfl⟩ := r
      obtain ⟨t', rfl⟩ := r'
      exact call_range_2 (range_it I1 q1 q2 q3 q4 q)
def tFor (wi : TI) (g : TG) (tb : TS) : TS := fun D σ H => wi σ H fun J H1 => ∃ W : Nat → Nat → St → Hp → Prop, (∃ m, W 0 m σ H1) ∧ ∀ i m σ H, W i m σ H →
  (J.stop i H ∧ D.nx σ H) ∨ (J.go i H ∧ ∃ N : St → Hp → Prop, (∀ σ' H', N σ' H' → ∃ m', m' < m ∧ W (i + 1) m' σ' H') ∧ ∀ x H', J.yld i H x H' → g x σ H' fun σ2 H2 => tb { D with nx := N, ct := N, bk := D.nx } σ2 H2)
def pinsAt (fp : List Addr) (h : Heap) : List (Addr × Obj) := fp.filterMap fun b => (h.get? b).map fun o => (b, o)
theorem mem_pinsAt {fp : List Addr} {h : Heap} {b : Addr} {o : Obj} (hb : b ∈ fp) (e : h.get? b = some o) : (b, o) ∈ pinsAt fp h := List.mem_filterMap.mpr ⟨b, hb, by rw [e]; rfl⟩
theorem of_pinsAt {fp : List Addr} {h : Heap} {p : Addr × Obj} (hp : p ∈ pinsAt fp h) : p.1 ∈ fp ∧ h.get? p.1 = some p.2 := by
  obtain ⟨b, hb, e⟩ := List.mem_filterMap.mp hp
  cases q : h.get? b with
  | none => rw [q] at e; cases e
  | some o =>
    rw [q] at e
    have e' : (b, o) = p := Option.some.inj e
    subst e'
    exact ⟨hb, q⟩
theorem Inv.pinned {pins : List (Addr × Obj)} {σ : St} {H : Hp} {s : Shared} {fp : List Addr} (I : Inv X pins σ H s) (hf : ∀ b ∈ fp, FpOk X pins H b) (ho : ∀ b ∈ fp, ∃ o, s.heap.get? b = some o ∧ ∀ v, o.data ≠ .cell v) : Inv X (pins ++ pinsAt fp s.heap) σ H s :=
  I.pins_of fun p hp => (List.mem_append.mp hp).elim (fun z => I.pin p (List.mem_append_right _ z)) fun z => by
    obtain ⟨hb, e⟩ := of_pinsAt z
    obtain ⟨f0, f1, f2, _⟩ := hf p.1 hb
    obtain ⟨o, e', d⟩ := ho p.1 hb
    rw [e] at e'; cases e'
    exact ⟨e, f0, f1, f2, d⟩
theorem Inv.unpinned {pins pl : List (Addr × Obj)} {σ : St} {H : Hp} {s : Shared} (I : Inv X (pins ++ pl) σ H s) : Inv X pins σ H s := I.pins_of fun p hp => I.pin p (List.mem_append_right _ (List.mem_append_left _ hp))
theorem ps_for {iter : Expr} {body : List Stmt} {wi : TI} {g : TG} {tb : TS} {pos : Pos} (hp : PassesOwn (model X.prog X.w) X.A X.env X.xe) (hc : X.calm = true) (hi : PI X tg iter wi) (hg : PG X tg g) (hb : PSs X body tb)
    (hs : ∀ x, foldedSetIterable iter X.env x = pure x := by intro _; rfl) : PS X (.For tg iter body [] pos) (tFor wi g tb) := by
  intro pins s σ H D I h
  refine wpAny_For (thn (hi pins s σ H _ I h) fun v s1 h1 => thn h1 fun itv s2 h2 => ?_) hs
  obtain ⟨it, fp, tn, J, H2, e, I2, T, st2, f2, W, ⟨m0, w0⟩, turn⟩ := h2
  subst e
  have stat : ∀ {H' : Hp}, (∀ b ∈ fp, H' b = none) → ∀ b ∈ fp, FpOk X pins H' b := fun hn b hb => ⟨hn b hb, (f2 b hb).2⟩
  refine codeAny_forLoop_any (fun n s' => ∃ i σ' H', Inv X pins σ' H' s' ∧ tn i s'.heap ∧ (∀ b ∈ fp, H' b = none) ∧ W i n σ' H') ?_ m0 ⟨0, σ, H2, I2, st2, fun b hb => (f2 b hb).1, w0⟩
  rintro n s3 ⟨i, σ3, H3, I3, st3, fr3, w3⟩
  rcases turn i n σ3 H3 w3 with ⟨stop, qn⟩ | ⟨go, N, hN, step⟩
  · refine wpAny_passesOwn hp (thn (T.done X rfl rfl rfl hc i pins s3 σ3 H3 X.xe I3 (stat fr3) st3 stop) fun r s4 ⟨hr, I4⟩ => ?_)
    subst hr
    exact wpAny_execs_nil ⟨σ3, H3, I4, qn⟩
  · refine wpAny_passesOwn hp (thn (T.item X rfl rfl rfl hc i pins s3 σ3 H3 X.xe I3 (stat fr3) st3 go) fun r s4 ⟨u, hr, h4⟩ => ?_)
    subst hr
    refine wpAny_passesOwn hp (thn h4 fun _ s5 ⟨x, H5, I5, r5, y5, st5, fr5⟩ => ?_)
    have I5' := I5.pinned (stat fr5) (T.obj _ _ st5)
    refine wpAny_passesOwn hp (thn (hg _ s5 σ3 H5 x u _ I5' r5 (step x H5 y5)) fun _ s6 ⟨σ6, H6, I6, q6⟩ => ?_)
    refine wpAny_passesOwn hp (thn (hb _ s6 σ6 H6 _ I6 q6) fun f s7 q7 => ?_)
    have again : ∀ {σ7 : St} {H7 : Hp}, Inv X (pins ++ pinsAt fp s5.heap) σ7 H7 s7 → N σ7 H7 → ∃ m, m < n ∧ ∃ i σ' H', Inv X pins σ' H' s7 ∧ tn i s7.heap ∧ (∀ b ∈ fp, H' b = none) ∧ W i m σ' H' := fun {σ7 H7} I7 n7 => by
      obtain ⟨m', hm, w7⟩ := hN σ7 H7 n7
      refine ⟨m', hm, i + 1, σ7, H7, I7.unpinned, T.keep _ _ _ st5 fun b hb o e => (I7.pin (b, o) (List.mem_append_right _ (List.mem_append_right _ (mem_pinsAt hb e)))).1, fun b hb => ?_, w7⟩
      obtain ⟨o, e, d⟩ := T.obj _ _ st5 b hb
      exact (I7.pin (b, o) (List.mem_append_right _ (List.mem_append_right _ (mem_pinsAt hb e)))).2.1
    cases f with
    | next => obtain ⟨σ7, H7, I7, n7⟩ := q7; exact again I7 n7
    | cont => obtain ⟨σ7, H7, I7, n7⟩ := q7; exact again I7 n7
    | brk => obtain ⟨σ7, H7, I7, q7⟩ := q7; exact ⟨σ7, H7, I7.unpinned, q7⟩
    | ret v => obtain ⟨x7, σ7, H7, I7, r7, q7⟩ := q7; exact ⟨x7, σ7, H7, I7.unpinned, r7, q7⟩
end
end L2
namespace L2
open PySem PySem.Spec PyProof.Rows
abbrev R2 := V → V → Hp → VK → Prop
def OpR (X : Cx) (f : Value → Value → Sem Value) (r : R2) : Prop :=
  ∀ (pins : List (Addr × Obj)) (s : Shared) (σ : St) (H : Hp) (x y : V) (v u : Value) (Q : VK), Inv X pins σ H s → RelV x v → RelV y u → r x y H Q →
    wpAny (model X.prog X.w) X.A (f v u) (EP X pins σ Q) X.xe s
def UnR (X : Cx) (f : Value → Sem Value) (r : V → Hp → VK → Prop) : Prop :=
  ∀ (pins : List (Addr × Obj)) (s : Shared) (σ : St) (H : Hp) (x : V) (v : Value) (Q : VK), Inv X pins σ H s → RelV x v → r x H Q →
    wpAny (model X.prog X.w) X.A (f v) (EP X pins σ Q) X.xe s
def CallR (X : Cx) (f : Value) (r : List V → Hp → VK → Prop) : Prop :=
  ∀ (pins : List (Addr × Obj)) (s : Shared) (σ : St) (H : Hp) (xs : List V) (us : List Value) (Q : VK), Inv X pins σ H s → Vals xs us → r xs H Q →
    wpAny (model X.prog X.w) X.A (call f us) (EP X pins σ Q) X.xe s
def tOp (r : R2) (ta tb : TE) : TE := fun σ H Q => ta σ H fun x H1 => tb σ H1 fun y H2 => r x y H2 Q
def tUn (r : V → Hp → VK → Prop) (ta : TE) : TE := fun σ H Q => ta σ H fun x H1 => r x H1 Q
def rI (C : Int → Int → Prop) (g : Int → Int → V) : R2 := fun x y H Q => ∃ i j, x = .int i ∧ y = .int j ∧ C i j ∧ Q (g i j) H
def rI0 (g : Int → Int → V) : R2 := fun x y H Q => ∃ i j, x = .int i ∧ y = .int j ∧ Q (g i j) H
def rU (g : Int → V) : V → Hp → VK → Prop := fun x H Q => ∃ i, x = .int i ∧ Q (g i) H
section
variable {X : Cx} {a b c : Expr} {ta tb tc : TE} {pos : Pos}
theorem binT (ha : PE X a ta) (hb : PE X b tb) {pins : List (Addr × Obj)} {s : Shared} {σ : St} {H : Hp} {R : V → V → Hp → Prop} (I : Inv X pins σ H s)
    (h : ta σ H fun x H1 => tb σ H1 fun y H2 => R x y H2) {Q : Value → Shared → Prop} {f : Value → Value → Sem Value}
    (hf : ∀ v u s2 x y H2, Inv X pins σ H2 s2 → RelV x v → RelV y u → R x y H2 → wpAny (model X.prog X.w) X.A (f v u) Q X.xe s2) :
    wpAny (model X.prog X.w) X.A (eval a X.env) (fun v s₁ => wpAny (model X.prog X.w) X.A (eval b X.env) (fun u s₂ => wpAny (model X.prog X.w) X.A (f v u) Q X.xe s₂) X.xe s₁) X.xe s := by
  refine thn (ha pins s σ H _ I h) fun v s1 ⟨x, H1, I1, r1, q1⟩ => ?_
  refine thn (hb pins s1 σ H1 _ I1 q1) fun u s2 ⟨y, H2, I2, r2, q2⟩ => ?_
  exact hf v u s2 x y H2 I2 r1 r2 q2
theorem pe_op {op : Operator} {r : R2} (ho : OpR X (binaryOp op) r) (ha : PE X a ta) (hb : PE X b tb) : PE X (.BinOp a op b pos) (tOp r ta tb) := by
  intro pins s σ H Q I h
  exact wpAny_BinOp (binT ha hb I h fun v u s2 x y H2 I2 rx ry q => ho pins s2 σ H2 x y v u Q I2 rx ry q)
theorem pe_un {op : UnaryOp} {r : V → Hp → VK → Prop} (ho : UnR X (unaryOp op) r) (ha : PE X a ta) : PE X (.UnaryOp op a pos) (tUn r ta) := by
  intro pins s σ H Q I h
  exact UnaryOp_ (thn (ha pins s σ H _ I h) fun v s1 ⟨x, H1, I1, r1, q1⟩ => ho pins s1 σ H1 x v Q I1 r1 q1)
theorem opI {f : Value → Value → Sem Value} {C : Int → Int → Prop} {g : Int → Int → Int}
    (rule : ∀ (i j : Int) (t u : Tok) (s : Shared) (Q : Value → Shared → Prop) (E : Value → Shared → Prop), C i j → Q (.int (g i j) s.toks) { s with toks := s.toks + 1 } → wpAny (model X.prog X.w) X.A (f (.int i t) (.int j u)) Q E s) :
    OpR X f (rI C fun i j => .int (g i j)) := by
  intro pins s σ H x y v u Q I rx ry h
  obtain ⟨i, j, rfl, rfl, hc, q⟩ := h
  obtain ⟨t, rfl⟩ := rx
  obtain ⟨t', rfl⟩ := ry
  exact rule i j t t' s _ _ hc ⟨.int (g i j), H, I.tok _, ⟨_, rfl⟩, q⟩
theorem opI0 {f : Value → Value → Sem Value} {g : Int → Int → Int}
    (rule : ∀ (i j : Int) (t u : Tok) (s : Shared) (Q : Value → Shared → Prop) (E : Value → Shared → Prop), Q (.int (g i j) s.toks) { s with toks := s.toks + 1 } → wpAny (model X.prog X.w) X.A (f (.int i t) (.int j u)) Q E s) :
    OpR X f (rI0 fun i j => .int (g i j)) := by
  intro pins s σ H x y v u Q I rx ry h
  obtain ⟨i, j, rfl, rfl, q⟩ := h
  obtain ⟨t, rfl⟩ := rx
  obtain ⟨t', rfl⟩ := ry
  exact rule i j t t' s _ _ ⟨.int (g i j), H, I.tok _, ⟨_, rfl⟩, q⟩
theorem opB0 {f : Value → Value → Sem Value} {g : Int → Int → Bool}
    (rule : ∀ (i j : Int) (t u : Tok) (s : Shared) (Q : Value → Shared → Prop) (E : Value → Shared → Prop), Q (.bool (g i j)) s → wpAny (model X.prog X.w) X.A (f (.int i t) (.int j u)) Q E s) :
    OpR X f (rI0 fun i j => .bl (g i j)) := by
  intro pins s σ H x y v u Q I rx ry h
  obtain ⟨i, j, rfl, rfl, q⟩ := h
  obtain ⟨t, rfl⟩ := rx
  obtain ⟨t', rfl⟩ := ry
  exact rule i j t t' s _ _ ⟨.bl (g i j), H, I, rfl, q⟩
def CPow (i j : Int) : Prop := 0 ≤ j ∧ j ≤ 1000000 ∧ i.natAbs < 2 ^ 64
def CMul (i j : Int) : Prop := (-(2 ^ 64) < i ∧ i < 2 ^ 64) ∨ (-(2 ^ 64) < j ∧ j < 2 ^ 64)
theorem CMul.ok {i j : Int} (h : CMul i j) : IntMulOk i j := by
  rcases h with ⟨h1, h2⟩ | ⟨h1, h2⟩
  · exact .of_left (intBits_le_64 h1 h2)
  · exact .of_right (intBits_le_64 h1 h2)
theorem op_add : OpR X (binaryOp .Add) (rI0 fun i j => .int (i + j)) := opI0 fun _ _ _ _ _ _ _ q => add_int q
theorem op_sub : OpR X (binaryOp .Sub) (rI0 fun i j => .int (i - j)) := opI0 fun _ _ _ _ _ _ _ q => sub_int q
theorem op_mul : OpR X (binaryOp .Mult) (rI CMul fun i j => .int (i * j)) := opI fun _ _ _ _ _ _ _ hc q => mul_int q hc.ok
theorem op_mod : OpR X (binaryOp .Mod) (rI (fun _ j => 0 < j) fun i j => .int (i % j)) := opI fun i j _ _ _ _ _ hc q => by
  have h1 : (0 : Int) < j := hc
  exact mod_int' (by omega) (by rw [Int.fmod_eq_emod_of_nonneg i (by omega)]; exact q)
theorem op_pow : OpR X (binaryOp .Pow) (rI CPow fun i j => .int (i ^ j.toNat)) := opI fun _ _ _ _ _ _ _ hc q => pow_int_small hc.1 hc.2.1 hc.2.2 q
theorem unI {f : Value → Sem Value} {g : Int → Int}
    (rule : ∀ (i : Int) (t : Tok) (s : Shared) (Q : Value → Shared → Prop) (E : Value → Shared → Prop), Q (.int (g i) s.toks) { s with toks := s.toks + 1 } → wpAny (model X.prog X.w) X.A (f (.int i t)) Q E s) :
    UnR X f (rU fun i => .int (g i)) := by
  intro pins s σ H x v Q I rx h
  obtain ⟨i, rfl, q⟩ := h
  obtain ⟨t, rfl⟩ := rx
  exact rule i t s _ _ ⟨.int (g i), H, I.tok _, ⟨_, rfl⟩, q⟩
theorem un_neg : UnR X (unaryOp .USub) (rU fun i => .int (-i)) := unI fun _ _ _ _ _ q => neg_int q
end
section
variable {X : Cx} {a b c : Expr} {ta tb tc : TE} {pos : Pos}
theorem fin_bl {pins : List (Addr × Obj)} {σ : St} {H : Hp} {s : Shared} {Q : VK} {k k' : Bool} (I : Inv X pins σ H s) (q : Q (.bl k) H) (e : k = k') : EP X pins σ Q (.bool k') s := by
  subst e
  exact ⟨.bl k, H, I, rfl, q⟩
theorem op_lt : OpR X (compareOp .Lt) (rI0 fun i j => .bl (decide (i < j))) := opB0 fun _ _ _ _ _ _ _ q => lt_int q
theorem op_le : OpR X (compareOp .LtE) (rI0 fun i j => .bl (decide (i ≤ j))) := opB0 fun _ _ _ _ _ _ _ q => le_int q
theorem op_gt : OpR X (compareOp .Gt) (rI0 fun i j => .bl (decide (j < i))) := opB0 fun _ _ _ _ _ _ _ q => gt_int q
theorem op_ge : OpR X (compareOp .GtE) (rI0 fun i j => .bl (decide (j ≤ i))) := opB0 fun _ _ _ _ _ _ _ q => ge_int q
theorem op_isN : OpR X (compareOp .Is) (fun x y H Q => y = .non ∧ Q (.bl (decide (x = .non))) H) := by
  intro pins s σ H x y v u Q I rx ry h
  obtain ⟨rfl, q⟩ := h
  cases ry
  refine is_none_gen (fin_bl I q ?_)
  cases x <;> first
    | (cases rx; rfl)
    | (obtain ⟨t, rfl⟩ := rx; rfl)
theorem op_notN : OpR X (compareOp .IsNot) (fun x y H Q => y = .non ∧ Q (.bl (!decide (x = .non))) H) := by
  intro pins s σ H x y v u Q I rx ry h
  obtain ⟨rfl, q⟩ := h
  cases ry
  refine isnot_none_gen (fin_bl I q ?_)
  cases x <;> first
    | (cases rx; rfl)
    | (obtain ⟨t, rfl⟩ := rx; rfl)
theorem nomark (b : Expr) {op : CmpOp} (h : op ≠ .In := by decide) (h2 : op ≠ .NotIn := by decide) : behindInMarks op b = false := by
  have e1 : (op == CmpOp.In) = false := by cases op <;> first | rfl | exact absurd rfl h
  have e2 : (op == CmpOp.NotIn) = false := by cases op <;> first | rfl | exact absurd rfl h2
  cases b <;> simp [behindInMarks, e1, e2]
theorem pe_cmpR {op : CmpOp} {r : R2} (ho : OpR X (compareOp op) r) (ha : PE X a ta) (hb : PE X b tb) (hm : behindInMarks op b = false) : PE X (.Compare a [op] [b] pos) (tOp r ta tb) := by
  intro pins s σ H Q I h
  exact wpAny_Compare1 (binT ha hb I h fun v u s2 x y H2 I2 rx ry q => ho pins s2 σ H2 x y v u Q I2 rx ry q) hm
def tTest (t : TE) : TT := fun σ H Q => t σ H fun x H' => ∃ k, x = .bl k ∧ Q k H'
theorem pt_cmpR {op : CmpOp} {r : R2} (ho : OpR X (compareOp op) r) (ha : PE X a ta) (hb : PE X b tb) (hm : behindInMarks op b = false) : PT X (.Compare a [op] [b] pos) (tTest (tOp r ta tb)) := by
  intro pins s σ H Q I h
  refine wpAny_isTrue_Compare1 (thn (ha pins s σ H _ I h) fun v s1 ⟨x, H1, I1, r1, q1⟩ => thn (hb pins s1 σ H1 _ I1 q1) fun u s2 ⟨y, H2, I2, r2, q2⟩ =>
    thn (ho pins s2 σ H2 x y v u _ I2 r1 r2 q2) fun c s3 ⟨z, H3, I3, r3, k, e, q3⟩ => ?_) hm
  subst e
  cases r3
  exact wpAny_truthy_bool ⟨H3, I3, q3⟩
def tChain (r r' : R2) (ta tb tc : TE) : TE := fun σ H Q => ta σ H fun x H1 => tb σ H1 fun y H2 => r x y H2 fun z H3 => ∃ k, z = .bl k ∧
  (if k = true then tc σ H3 fun w' H4 => r' y w' H4 Q else Q (.bl false) H3)
theorem pt_chain {op op' : CmpOp} {r r' : R2} (ho : OpR X (compareOp op) r) (ho' : OpR X (compareOp op') r') (ha : PE X a ta) (hb : PE X b tb) (hc : PE X c tc)
    (hm : lastMarks [op, op'] [b, c] = false := by with_unfolding_all rfl) : PT X (.Compare a [op, op'] [b, c] pos) (tTest (tChain r r' ta tb tc)) := by
  intro pins s σ H Q I h
  refine isTrue_chain (thn (ha pins s σ H _ I h) fun v s1 ⟨x, H1, I1, r1, q1⟩ => test_link (thn (hb pins s1 σ H1 _ I1 q1) fun u s2 ⟨y, H2, I2, r2, q2⟩ =>
    thn (ho pins s2 σ H2 x y v u _ I2 r1 r2 q2) fun d s3 ⟨z, H3, I3, r3, k, e, q3⟩ => ?_)) hm
  subst e
  cases r3
  refine wpAny_truthy_bool ?_
  cases k with
  | false =>
    obtain ⟨k', e', q'⟩ := q3
    cases e'
    exact ite_ff ⟨H3, I3, q'⟩
  | true =>
    refine ite_tt (test_last (thn (hc pins s3 σ H3 _ I3 q3) fun w' s4 ⟨z', H4, I4, r4, q4⟩ => thn (ho' pins s4 σ H4 y z' u w' _ I4 r2 r4 q4) fun d' s5 ⟨z2, H5, I5, r5, k2, e2, q5⟩ => ?_))
    subst e2
    cases r5
    exact wpAny_truthy_bool ⟨H5, I5, q5⟩
theorem line63 : (sizeLine : Nat) < 2 ^ 63 := by rw [sizeLine_eq]; decide
theorem vals1 {x : V} {us : List Value} (r : Vals [x] us) : ∃ u, us = [u] ∧ RelV x u := by
  cases r with
  | cons r1 r2 => cases r2; exact ⟨_, rfl, r1⟩
theorem vals2 {x y : V} {us : List Value} (r : Vals [x, y] us) : ∃ u w', us = [u, w'] ∧ RelV x u ∧ RelV y w' := by
  cases r with
  | cons r1 r2 =>
    cases r2 with
    | cons r3 r4 => cases r4; exact ⟨_, _, rfl, r1, r3⟩
theorem call_max2 (hc : X.calm = true) : CallR X (.builtin "max") (fun xs H Q => ∃ i j, xs = [.int i, .int j] ∧ Q (.int (if j > i then j else i)) H) := by
  intro pins s σ H xs us Q I r h
  obtain ⟨i, j, rfl, q⟩ := h
  obtain ⟨u, w', rfl, ⟨t, rfl⟩, ⟨t', rfl⟩⟩ := vals2 r
  refine max_two_ints (I.ok.hd hc) fun h' tk k => ⟨_, H, I.kept k, ?_, q⟩
  by_cases hj : j > i
  · rw [if_pos hj, if_pos hj]; exact ⟨_, rfl⟩
  · rw [if_neg hj, if_neg hj]; exact ⟨_, rfl⟩
theorem call_min2 (hc : X.calm = true) : CallR X (.builtin "min") (fun xs H Q => ∃ i j, xs = [.int i, .int j] ∧ Q (.int (if j < i then j else i)) H) := by
  intro pins s σ H xs us Q I r h
  obtain ⟨i, j, rfl, q⟩ := h
  obtain ⟨u, w', rfl, ⟨t, rfl⟩, ⟨t', rfl⟩⟩ := vals2 r
  refine min_two_ints (I.ok.hd hc) fun h' tk k => ⟨_, H, I.kept k, ?_, q⟩
  by_cases hj : j < i
  · rw [if_pos hj, if_pos hj]; exact ⟨_, rfl⟩
  · rw [if_neg hj, if_neg hj]; exact ⟨_, rfl⟩
theorem call_int1 : CallR X (.type "int") (fun xs H Q => (∃ i, xs = [.int i] ∧ Q (.int i) H) ∨ ∃ k, xs = [.bl k] ∧ Q (.int (if k then 1 else 0)) H) := by
  intro pins s σ H xs us Q I r h
  rcases h with ⟨i, rfl, q⟩ | ⟨k, rfl, q⟩
  · obtain ⟨u, rfl, t, rfl⟩ := vals1 r
    exact call_int_int ⟨.int i, H, I, ⟨_, rfl⟩, q⟩
  · obtain ⟨u, rfl, r1⟩ := vals1 r
    cases r1
    exact call_int_bool ⟨.int (if k then 1 else 0), H, I.tok _, ⟨_, rfl⟩, q⟩
end
end L2
namespace L2
open PySem PySem.Spec PyProof.Rows
structure ObjM (h : Heap) (x dx C : Addr) (mA : Str → Option Value) : Prop where
  obj : h.get? x = some (PySem.W.instObj C dx)
  ns : h.Ns1 dx mA
  ne : dx ≠ x
theorem lookIn_ns {h : Heap} {dx : Addr} {mA : Str → Option Value} (n : h.Ns1 dx mA) : ∃ od, h.get? dx = some od ∧ ∀ name, PySem.W.lookIn name od = some (mA name) := by
  obtain ⟨o, es, ep, ho, hd, hk, _, hm⟩ := n
  refine ⟨o, ho, fun name => ?_⟩
  have e := hm name
  unfold nsFind findBy at e
  rw [← Array.find?_toList] at e
  unfold PySem.W.lookIn
  rw [hd]
  dsimp only
  split
  · rename_i y q
    rw [q] at e
    exact congrArg some e
  · rename_i q
    rw [q] at e
    have a : es.toList.any (·.refKey) = false := by
      rw [List.any_eq_false]
      intro y hy
      obtain ⟨z, t, hkey⟩ := hk y (Array.mem_toList_iff.mp hy)
      simp [DictEntry.refKey, hkey]
    have a' : ¬ es.toList.any (·.refKey) = true := by rw [a]; exact Bool.false_ne_true
    rw [if_neg a']
    exact congrArg some e
theorem ObjM.look {h : Heap} {x dx C : Addr} {mA : Str → Option Value} (I : ObjM h x dx C mA) : ∃ od, PySem.W.InstAt h x (PySem.W.instObj C dx) C (some od) ∧ ∀ name, PySem.W.lookIn name od = some (mA name) :=
  let ⟨od, ho, hl⟩ := lookIn_ns I.ns
  ⟨od, ⟨I.obj, rfl, rfl, ho⟩, hl⟩
section
variable {prog : Program} {w : World} {A : Around} {E : Value → Shared → Prop} {s : Shared} {K : PySem.W.Frag} {x dx C f : Addr} {mA : Str → Option Value} {name : Str} {v : Value}
end
theorem RelO.some_of {v : V} {o : Option Value} (r : RelO (some v) o) : ∃ u, o = some u ∧ RelV v u := by
  cases o with
  | none => exact (show False from r).elim
  | some u => exact ⟨u, rfl, r⟩
section
variable {P : Program} {w : World} {H H' : Hp} {h h' : Heap} {a C dx : Addr} {fs fs' : List (Str × V)}
theorem ins_get (hok : HOk P w H h) (e : H a = some (.ins C dx fs)) : ∃ mA, ObjM h a dx C mA ∧ (∀ f, RelO (fs.lookup f) (mA f)) ∧ PySem.Within mA (fs.map (·.1)) ∧ fs.length ≤ 1000 ∧ H dx = some (.own a) := by
  obtain ⟨d, z, ne, ob, mA, n, r, q⟩ := (show ObjOk P w H h a (.ins C dx fs) from hok a _ e)
  exact ⟨mA, ⟨ob, n, ne⟩, r, q, z, d⟩
end
structure Cls (K : PySem.W.Frag) (C : Addr) : Prop where
  pg : PySem.W.plainGet K C Str.empty = true
  hd : PySem.W.hasDictIn K C = true
  po : PySem.W.plainOver K C = true
  sa : PySem.W.findIn K (.ref C) "__setattr__" = some (some (.builtin "object.__setattr__"))
structure Con (K : PySem.W.Frag) (C : Addr) (f : Str) (v : V) (u : Value) : Prop where
  at_ : PySem.W.findIn K (.ref C) f = some (some u)
  rel : RelV v u
  get : PySem.W.specialIn K u "__get__" = some none
  cp : PySem.W.copiedNames.contains f = false
structure Meth (K : PySem.W.Frag) (C : Addr) (m : Str) (f : Addr) : Prop where
  at_ : PySem.W.findIn K (.ref C) m = some (some (.ref f))
  fn : PySem.W.isFn K (.ref f) = true
  kp : PySem.W.keepIn K (.ref f) = true
section
variable {X : Cx} {pins : List (Addr × Obj)} {σ : St} {H : Hp} {s : Shared} {a C dx : Addr} {fs : List (Str × V)} {f : Str} {v : V} {A : Around} {E : Value → Shared → Prop}
end
section
variable {X : Cx} {o e value : Expr} {f : Str} {pos pos' tpos : Pos} {ta tv : TE}
end
section
variable {X : Cx} {pins : List (Addr × Obj)} {σ : St} {H : Hp} {s : Shared} {A : Around} {E : Value → Shared → Prop} {Q : Value → Shared → Prop} {c : Value} {b : Bool}
inductive TyOf (K : PySem.W.Frag) (H : Hp) : V → Value → Prop where
  | non : TyOf K H .non (.type "NoneType")
  | bl (x : Bool) : TyOf K H (.bl x) (.type "bool")
  | int (i : Int) : TyOf K H (.int i) (.type "int")
  | str (x : Str) : TyOf K H (.str x) (.type "str")
  | flt (x : UInt64) : TyOf K H (.flt x) (.type "float")
  | lst {a : Addr} {xs : List V} (e : H a = some (.lst xs)) : TyOf K H (.ref a) (.type "list")
  | frz {a : Addr} {o : Obj} {xs : List V} (e : H a = some (.frz o (.lst xs))) : TyOf K H (.ref a) (.type "list")
  | tup {a : Addr} {xs : List V} (e : H a = some (.tup xs)) : TyOf K H (.ref a) (.type "tuple")
  | dK {a : Addr} {kvs : List (Key × V)} (e : H a = some (.dK kvs)) : TyOf K H (.ref a) (.type "dict")
  | dT {a : Addr} {kvs : List (List Key × V)} (e : H a = some (.dT kvs)) : TyOf K H (.ref a) (.type "dict")
  | ins {a C dx : Addr} {fs : List (Str × V)} (e : H a = some (.ins C dx fs)) (cl : Cls K C) (ha : PySem.W.findIn K (.ref C) "__class__" = some (some (.builtin "object.__class__")))
      (hn : PySem.W.specialIn K (.builtin "object.__class__") "__get__" = some (some (.builtin "getset_descriptor.__get__"))) (htk : PySem.W.takesIn K (.builtin "object.__class__") = some true)
      (hm : PySem.W.mroIn K C (.type "object") = some true) : TyOf K H (.ref a) (.ref C)
end
end L2
namespace L2
open PySem PySem.Spec PyProof.Rows
structure Room (k : Nat) (A : Around) : Prop where
  hd : A.handled = none
  dp : A.depth + 3 * k + 5 < recursionLimit
  un : A.units + 16 * k + 200 < cLine
theorem Room.mono {j k : Nat} {A : Around} (r : Room k A) (h : j ≤ k) : Room j A := ⟨r.hd, by have := r.dp; omega, by have := r.un; omega⟩
theorem Room.deeper {k : Nat} {A : Around} (r : Room (k + 1) A) (env : Env) : Room k (A.deeper env) :=
  ⟨r.hd, by have := r.dp; show A.depth + 1 + 3 * k + 5 < _; omega, by have := r.un; show A.units + 3 + 16 * k + 200 < _; omega⟩
theorem Room.depth {k : Nat} {A : Around} (r : Room k A) : A.depth < recursionLimit := by have := r.dp; omega
theorem Room.units {k : Nat} {A : Around} (r : Room k A) : A.units + 64 < cLine := by have := r.un; omega
def tNil : TA := fun _ H Q => Q [] H
def tCons (ta : TE) (tr : TA) : TA := fun σ H Q => ta σ H fun x H1 => tr σ H1 fun xs H2 => Q (x :: xs) H2
section
variable {X : Cx} {e : Expr} {es : List Expr} {te : TE} {t : TA} {pos : Pos}
theorem pa_nil : PA X [] tNil := fun _ _ _ _ H Q I h => Calls.spliced_nil ⟨[], H, I, .nil, h⟩
theorem pa_cons (ha : PE X e te) (hr : PA X es t) (hs : starEach (e :: es) X.env = (false, eval e X.env) :: starEach es X.env := by rfl) : PA X (e :: es) (tCons te t) := by
  intro pos pins s σ H Q I h
  rw [hs]
  show wpAny _ _ (spliced ((false, eval e X.env) :: backTo pos (starEach es X.env))) _ _ s
  refine Calls.spliced_cons (thn (ha pins s σ H _ I h) fun u s1 ⟨x, H1, I1, r1, q1⟩ => ?_)
  exact thn (hr pos pins s1 σ H1 _ I1 q1) fun us s2 ⟨xs, H2, I2, r2, q2⟩ => ⟨x :: xs, H2, I2, .cons r1 r2, q2⟩
def tTup (t : TA) : TE := fun σ H Q => t σ H fun xs H1 => xs.length ≤ sizeLine ∧ ∀ p, H1 p = none → Q (.ref p) (upd H1 p (.tup xs))
def tLst (t : TA) : TE := fun σ H Q => t σ H fun xs H1 => xs.length ≤ sizeLine ∧ ∀ p, H1 p = none → Q (.ref p) (upd H1 p (.lst xs))
theorem pe_tup {x1} (h : PA X es t) : PE X (.Tuple es x1 pos) (tTup t) := by
  intro pins s σ H Q I hq
  refine wpAny_Tuple_spliced (thn (h pos pins s σ H _ I hq) fun us s1 ⟨xs, H1, I1, r, z, q⟩ => ⟨by rw [← r.length]; exact z, ?_⟩)
  have hf : H1 s1.heap.objs.size = none := I1.hok.fresh (Nat.le_refl _)
  refine ⟨.ref s1.heap.objs.size, upd H1 s1.heap.objs.size (.tup xs), I1.laid (t' := s1.toks) (fun b u e => Heap.get?_push_of_some _ e) (Nat.le_refl _) ?_, rfl, q _ hf⟩
  exact ⟨z, us, r, ⟨_, Heap.get?_push_size _ rfl, rfl, _, rfl⟩⟩
theorem pe_lst (h : PA X es t) : PE X (.List es pos) (tLst t) := by
  intro pins s σ H Q I hq
  refine wpAny_List_spliced (thn (h pos pins s σ H _ I hq) fun us s1 ⟨xs, H1, I1, r, z, q⟩ => ⟨by rw [← r.length]; exact z, ?_⟩)
  have hf : H1 s1.heap.objs.size = none := I1.hok.fresh (Nat.le_refl _)
  refine ⟨.ref s1.heap.objs.size, upd H1 s1.heap.objs.size (.lst xs), I1.laid (t' := s1.toks) (fun b u e => Heap.get?_push_of_some _ e) (Nat.le_refl _) ?_, rfl, q _ hf⟩
  exact ⟨z, us, 0, r, Heap.get?_push_size _ rfl⟩
end
abbrev Sp := List V → Hp → VK → XK → Prop
abbrev CXT := List Env → Hp → Shared → XK → Value → Shared → Prop
structure Env0 (P : Program) (w : World) (K : PySem.W.Frag) (mg : Str → Option Value) (base : Heap) (A : Around) (outer : List Env) (s : Shared) (H : Hp) : Prop where
  frames : A.frames = some outer
  mod : Mod K mg base
  bs : ∀ b o, base.get? b = some o → s.heap.get? b = some o ∧ H b = none
  bsz : base.objs.size ≤ s.heap.objs.size
  funs : s.heap.FunFrames base outer
  frf : ∀ b ∈ frs outer, H b = none
  hok : HOk P w H s.heap
  bare : AllBare s.gens
def CE (outer : List Env) (P : Program) (w : World) (H : Hp) (s : Shared) (Q : VK) (u : Value) (s' : Shared) : Prop :=
  ∃ v H', s'.os = s.os ∧ AllBare s'.gens ∧ Un (frs outer) [] H H' s.heap s'.heap ∧ HOk P w H' s'.heap ∧ RelV v u ∧ Q v H'
def CR (CX : CXT) (outer : List Env) (P : Program) (w : World) (H : Hp) (s : Shared) (Q : VK) (E : XK) (r : Result) (s' : Shared) : Prop :=
  match r with
  | .ok (.ret u) => CE outer P w H s Q u s'
  | .ok _ => False
  | .error e => CX outer H s E e s'
structure FnOk (P : Program) (w : World) (K : PySem.W.Frag) (mg : Str → Option Value) (base : Heap) (CX : CXT) (k : Nat) (f : Addr) (fd : FuncData) (ps : List Str) (sp : Sp) : Prop where
  len : ∀ vs H Q E, sp vs H Q E → vs.length = ps.length
  run : ∀ (A : Around) (outer : List Env) (s : Shared) (H : Hp) (args : Args) (us : List Value) (vs : List V) (Q : VK) (E : XK), Room k A → Env0 P w K mg base A outer s H → BindsTo s fd args (ps.zip us) → Vals vs us → sp vs H Q E →
    codeAny (model P w) A (.call (.ref f) args) (CR CX outer P w H s Q E) s
theorem FnOk.mono {P : Program} {w : World} {K : PySem.W.Frag} {mg : Str → Option Value} {base : Heap} {CX : CXT} {j k : Nat} {f : Addr} {fd : FuncData} {ps : List Str} {sp : Sp} (F : FnOk P w K mg base CX j f fd ps sp) (h : j ≤ k) :
    FnOk P w K mg base CX k f fd ps sp := ⟨F.len, fun A outer s H args us vs Q E hr => F.run A outer s H args us vs Q E (hr.mono h)⟩
theorem FnOk.imp {P : Program} {w : World} {K : PySem.W.Frag} {mg : Str → Option Value} {base : Heap} {CX : CXT} {k : Nat} {f : Addr} {fd : FuncData} {ps : List Str} {sp sp' : Sp} (F : FnOk P w K mg base CX k f fd ps sp)
    (h : ∀ vs H Q E, sp' vs H Q E → sp vs H Q E) : FnOk P w K mg base CX k f fd ps sp' :=
  ⟨fun vs H Q E q => F.len vs H Q E (h _ _ _ _ q), fun A outer s H args us vs Q E hr he hb hv hs => F.run A outer s H args us vs Q E hr he hb hv (h _ _ _ _ hs)⟩
section
variable {X : Cx} {pins : List (Addr × Obj)} {σ : St} {H : Hp} {s s' : Shared}
theorem Inv.env0 (I : Inv X pins σ H s) : Env0 X.prog X.w X.K X.mg X.base X.A X.stack s H :=
  ⟨I.ok.frames, I.ok.mod, I.bs, Nat.le_trans I.ok.bsz I.sz, I.stack, I.stkFree, I.hok, I.bare⟩
theorem Inv.after {Q : VK} {u : Value} (I : Inv X pins σ H s) (h : CE X.stack X.prog X.w H s Q u s') : EP X pins σ Q u s' := by
  obtain ⟨v, H', os, bare, un, hok, r, q⟩ := h
  obtain ⟨hh, g, d, t, os'⟩ := s'
  obtain rfl : os' = s.os := os
  exact ⟨v, H', I.call (h' := hh) (g' := g) (d' := d) (t' := t) (ch := []) un hok bare (fun b z => absurd z (by simp)), r, q⟩
end
def tCall (sp : Sp) (dvs : List V) (E : XK) (t : TA) : TE := fun σ H Q => t σ H fun vs H1 => sp (vs ++ dvs) H1 Q E
def Binds (K : PySem.W.Frag) (fd : FuncData) (ps : List Str) (ds : List Value) : Prop :=
  ∀ (s : Shared) (us : List Value), K.In s.heap → (us ++ ds).length = ps.length → BindsTo s fd ⟨us, []⟩ (ps.zip (us ++ ds))
theorem Binds.all {K : PySem.W.Frag} {fd : FuncData} {ps : List Str} (h : ∀ us : List Value, us.length = ps.length → bindArgs fd ⟨us, []⟩ = pure (ps.zip us)) : Binds K fd ps [] := fun s us _ hl => by
  rw [List.append_nil] at hl ⊢
  exact .of_eq (h us hl)
def Passes (CX : CXT) (X : Cx) (E : XK) : Prop := ∀ (pins : List (Addr × Obj)) (σ : St) (H : Hp) (s : Shared) (e : Value) (s' : Shared), Inv X pins σ H s → CX X.stack H s E e s' → X.xe e s'
section
variable {X : Cx} {CX : CXT} {k : Nat} {f C : Addr} {fd : FuncData} {ps : List Str} {sp : Sp} {dvs : List V} {ds : List Value} {E : XK} {x m : Str} {p pos apos : Pos} {e o : Expr} {es : List Expr} {ta : TE} {t : TA}
theorem run_fn {pins : List (Addr × Obj)} {σ : St} {H : Hp} {s : Shared} {Q : VK} {us : List Value} {vs : List V} (F : FnOk X.prog X.w X.K X.mg X.base CX k f fd ps sp) (hr : Room k X.A) (hb : Binds X.K fd ps ds) (hd : Vals dvs ds) (hx : Passes CX X E)
    (I : Inv X pins σ H s) (r : Vals vs us) (h : sp (vs ++ dvs) H Q E) : wpAny (model X.prog X.w) X.A (call (.ref f) us) (EP X pins σ Q) X.xe s := by
  have r2 : Vals (vs ++ dvs) (us ++ ds) := r.append hd
  have hl : (us ++ ds).length = ps.length := by rw [← r2.length]; exact F.len _ _ _ _ h
  refine wpAny_call (codeAny_mono (F.run X.A X.stack s H ⟨us, []⟩ (us ++ ds) (vs ++ dvs) Q E hr I.env0 (hb s us I.kIn hl) r2 h) fun r s' hq => ?_)
  cases r with
  | error e => exact hx pins σ H s e s' I hq
  | ok fl =>
    cases fl with
    | ret u => exact I.after hq
    | next => exact False.elim hq
    | brk => exact False.elim hq
    | cont => exact False.elim hq
theorem pe_call (F : FnOk X.prog X.w X.K X.mg X.base CX k f fd ps sp) (hr : Room k X.A) (hg : Gl X x) (hm : X.mg x = some (.ref f)) (hk : PySem.W.keepIn X.K (.ref f) = true) (hb : Binds X.K fd ps ds) (hd : Vals dvs ds) (hx : Passes CX X E)
    (ha : PA X (e :: es) t) (hdb : (x == ("__debug__" : Str)) = false := by decide) (he : starEach (e :: es) X.env = (false, eval e X.env) :: starEach es X.env := by rfl) (hpl : (backTo pos (starEach es X.env)).any (·.1) = false := by rfl) :
    PE X (.Call (.Name x p) (e :: es) [] pos) (tCall sp dvs E t) := by
  intro pins s σ H Q I h
  refine wpAny_Call_Name_kw (ld_glob I hg hm ?_ hdb)
  refine PySem.W.callWith_K (h₀ := X.base) I.ok.mod.kin hk (thn (ha pos pins s σ H _ I h) fun us s1 ⟨vs, H1, I1, r, q⟩ => ⟨I1.kIn, ?_⟩) he hpl
  exact run_fn F hr hb hd hx I1 r q
structure Mk (K : PySem.W.Frag) (C f : Addr) : Prop where
  makes : PySem.W.makesIn K C = true
  init : PySem.W.findIn K (.ref C) "__init__" = some (some (.ref f))
  fn : PySem.W.isFn K (.ref f) = true
  kp : PySem.W.keepIn K (.ref C) = true
end
section
variable {X : Cx} {CX : CXT} {k : Nat} {f C : Addr} {fd : FuncData} {ps ks : List Str} {sp : Sp} {E : XK} {x m : Str} {p pos apos kpos : Pos} {e o : Expr} {es : List Expr} {kws : List Keyword} {te ta : TE} {t tk : TA} {nm : Option Str}
structure KBinds (K : PySem.W.Frag) (fd : FuncData) (ps ks : List Str) (g : List Value → List Value → List Value) (gV : List V → List V → List V) : Prop where
  to : ∀ (s : Shared) (us ws : List Value), K.In s.heap → (g us ws).length = ps.length → BindsTo s fd ⟨us, ks.zip ws⟩ (ps.zip (g us ws))
  rel : ∀ {vs : List V} {us : List Value} {zs : List V} {ws : List Value}, Vals vs us → Vals zs ws → Vals (gV vs zs) (g us ws)
variable {g : List Value → List Value → List Value} {gV : List V → List V → List V}
end
structure FnScope (N P : List Str) (sc : Scope) : Prop where
  kind : sc.kind = .function
  co : sc.isCoroutine = false
  gen : sc.isGenerator = false
  nd : N.Nodup
  pre : N.take P.length = P
  par : ∀ x ∈ P, sc.names.lookup x = some .local ∨ sc.names.lookup x = some .cell
  nofree : ∀ y ∈ sc.names, y.2 ≠ .free
theorem bindL_out {kindOf : Str → Option NameKind} {x : Str} : ∀ {binds : List (Str × Value)} {m : Str → Option Value}, (∀ v, (x, v) ∉ binds) → bindL kindOf binds m x = m x
  | [], _, _ => rfl
  | (n, v) :: r, m, h => by
    unfold bindL
    rw [bindL_out fun w hw => h w (List.mem_cons_of_mem _ hw)]
    split
    · have : x ≠ n := by rintro rfl; exact h v List.mem_cons_self
      simp [this]
    · rfl
theorem bindC_out {kindOf : Str → Option NameKind} {x : Str} : ∀ {binds : List (Str × Value)} {m : Str → Option Value}, (∀ v, (x, v) ∉ binds) → bindC kindOf binds m x = m x
  | [], _, _ => rfl
  | (n, v) :: r, m, h => by
    unfold bindC
    rw [bindC_out fun w hw => h w (List.mem_cons_of_mem _ hw)]
    split
    · rfl
    · have : x ≠ n := by rintro rfl; exact h v List.mem_cons_self
      simp [this]
theorem bindL_get {kindOf : Str → Option NameKind} {x : Str} {v : Value} : ∀ {P : List Str} {vs : List Value} {i : Nat} {m : Str → Option Value}, P.Nodup → P[i]? = some x → vs[i]? = some v → kindOf x = some .local →
    bindL kindOf (P.zip vs) m x = some v
  | [], _, _, _, _, h, _, _ => by simp at h
  | _ :: _, [], _, _, _, _, h, _ => by simp at h
  | p :: P, w :: vs, 0, m, nd, h1, h2, hk => by
    simp at h1 h2; subst h1; subst h2
    show bindL kindOf ((p, w) :: P.zip vs) m p = _
    unfold bindL
    rw [bindL_out fun v hv => (List.nodup_cons.mp nd).1 (List.of_mem_zip hv).1, if_pos hk]
    simp
  | p :: P, w :: vs, i + 1, m, nd, h1, h2, hk => by
    show bindL kindOf ((p, w) :: P.zip vs) m x = _
    unfold bindL
    exact bindL_get (i := i) (List.nodup_cons.mp nd).2 (by simpa using h1) (by simpa using h2) hk
theorem bindC_get {kindOf : Str → Option NameKind} {x : Str} {v : Value} : ∀ {P : List Str} {vs : List Value} {i : Nat} {m : Str → Option Value}, P.Nodup → P[i]? = some x → vs[i]? = some v → kindOf x ≠ some .local →
    bindC kindOf (P.zip vs) m x = some v
  | [], _, _, _, _, h, _, _ => by simp at h
  | _ :: _, [], _, _, _, _, h, _ => by simp at h
  | p :: P, w :: vs, 0, m, nd, h1, h2, hk => by
    simp at h1 h2; subst h1; subst h2
    show bindC kindOf ((p, w) :: P.zip vs) m p = _
    unfold bindC
    rw [bindC_out fun v hv => (List.nodup_cons.mp nd).1 (List.of_mem_zip hv).1, if_neg hk]
    simp
  | p :: P, w :: vs, i + 1, m, nd, h1, h2, hk => by
    show bindC kindOf ((p, w) :: P.zip vs) m x = _
    unfold bindC
    exact bindC_get (i := i) (List.nodup_cons.mp nd).2 (by simpa using h1) (by simpa using h2) hk
def start (N : List Str) (vs : List V) : St := vs.map some ++ List.replicate (N.length - vs.length) none
def cxOf (CX : CXT) (P : Program) (w : World) (K : PySem.W.Frag) (mg : Str → Option Value) (base : Heap) (N : List Str) (qual : Str) (scope : Scope) (f : Addr) (cd : Value) (A : Around) (outer : List Env) (s : Shared) (H : Hp) (E : XK) : Cx where
  prog := P
  w := w
  K := K
  mg := mg
  base := base
  A := A.deeper (envOfC qual scope s.heap.objs.size f cd)
  N := N
  s₀ := s
  H₀ := H
  env := envOfC qual scope s.heap.objs.size f cd
  outer := outer
  stack := envOfC qual scope s.heap.objs.size f cd :: outer
  ex := []
  calm := true
  fn := fun _ => true
  pn := []
  xe := fun e s' => wpAny (model P w) (A.deeper (envOfC qual scope s.heap.objs.size f cd)) (leaving (envOfC qual scope s.heap.objs.size f cd) e) (fun _ s'' => CX outer H s E e s'') (fun e' s'' => CX outer H s E e' s'') s'
theorem cell_has {sc : Scope} {n : Nat} {x : Str} (h : sc.names.lookup x = some .cell) : ∃ c, (cellsFrom n sc.names []).lookup x = some c := by
  have q := PySem.W.cellsFrom_some sc.names n [] (.inl h)
  exact Option.isSome_iff_exists.mp q
theorem inv_start {CX : CXT} {P : Program} {w : World} {K : PySem.W.Frag} {mg : Str → Option Value} {base : Heap} {N ps : List Str} {qual : Str} {scope : Scope} {f : Addr} {cd : Value} {A : Around} {outer : List Env} {s s1 : Shared} {H : Hp} {E : XK} {us : List Value} {vs : List V}
    (S : FnScope N ps scope) (hd : A.handled = none) (e0 : Env0 P w K mg base A outer s H) (hl : vs.length = ps.length) (r : Vals vs us)
    (x : InCallC s s.heap.objs.size (bindL (envOfC qual scope s.heap.objs.size f cd).kindOf (ps.zip us) fun _ => none) (cellsFrom (s.heap.objs.size + 1) scope.names []) (bindC (envOfC qual scope s.heap.objs.size f cd).kindOf (ps.zip us) fun _ => none) s1) :
    Inv (cxOf CX P w K mg base N qual scope f cd A outer s H E) [] (start N vs) H s1 := by
  have hpl : ps.length ≤ N.length := by have := congrArg List.length S.pre; rw [List.length_take] at this; omega
  obtain ⟨h1, tk, rfl, hk⟩ := x.done
  have noA : ∀ b : Addr, b ∉ (cxOf CX P w K mg base N qual scope f cd A outer s H E).ex := fun b z => absurd (show b ∈ ([] : List Addr) from z) (by simp)
  refine ⟨⟨e0.mod, S.kind, rfl, rfl, Nat.le_refl _, fun y z c h1 h2 => ?_, fun y hy => ?_, fun y c _ h => ?_, fun _ => hd, Around.frames_deeper e0.frames, .inr ⟨rfl, rfl⟩, fun b z => absurd z (noA b), e0.bs, e0.bsz, fun b _ _ => noA b, fun b z => absurd z (noA b), e0.funs, e0.frf⟩,
    rfl, e0.bare, Un.kept hk, ⟨_, x.toInCall.ns, fun i y v h1 h2 h3 => ?_⟩, fun y c h => ⟨_, x.cell y c h⟩, e0.hok.fresh (Nat.le_refl _), fun y c h => ?_, fun p hp => absurd (show p ∈ ([] : List (Addr × Obj)) from hp) (by simp), e0.hok.kept hk, ?_⟩
  · exact name_of_addr x.apart (PySem.mem_of_lookup h1) (PySem.mem_of_lookup h2)
  · have hy : scope.names.lookup y = some .cell ∨ scope.names.lookup y = some .free := hy
    rcases hy with hy | hy
    · exact cell_has hy
    · exact absurd rfl (S.nofree _ (PySem.mem_of_lookup hy))
  · exact Nat.le_of_lt (x.above y c (PySem.mem_of_lookup h))
  · have hi : i < vs.length := by
      unfold start at h2
      by_cases hi : i < vs.length
      · exact hi
      · rw [List.getElem?_append_right (by simpa using hi)] at h2
        rw [List.getElem?_replicate] at h2
        split at h2 <;> cases h2
    have ha : vs[i]? = some v := by
      unfold start at h2
      rw [List.getElem?_append_left (by simpa using hi), List.getElem?_map] at h2
      cases e : vs[i]? with
      | none => rw [e] at h2; cases h2
      | some a => rw [e] at h2; cases h2; rfl
    obtain ⟨u, hu, rv⟩ := r.get ha
    have hp : ps[i]? = some y := by
      rw [← S.pre, List.getElem?_take_of_lt (by omega)]; exact h1
    have ndP : ps.Nodup := by rw [← S.pre]; exact S.nd.sublist (List.take_sublist _ _)
    refine ⟨u, rv, ?_⟩
    rcases S.par y (List.mem_of_getElem? hp) with k | k
    · exact .inl ⟨k, bindL_get ndP hp hu k⟩
    · obtain ⟨c, e⟩ := cell_has (n := s.heap.objs.size + 1) k
      refine .inr ⟨.inl k, c, e, ?_⟩
      have q := x.cell y c e
      rw [bindC_get ndP hp hu (by show scope.names.lookup y ≠ _; rw [k]; decide)] at q
      exact q
  · exact e0.hok.fresh (Nat.le_of_lt (x.above y c (PySem.mem_of_lookup h)))
  · unfold start
    show _ = N.length
    rw [List.length_append, List.length_map, List.length_replicate]
    omega
theorem fn_of {CX : CXT} {P : Program} {w : World} {K : PySem.W.Frag} {mg : Str → Option Value} {base : Heap} {k : Nat} {f : Addr} {name qual : Str} {params : Arguments} {body : List Stmt} {scope : Scope} {dV kV doc pm cdv ct oc : Value} {an od : Option Addr}
    {osl : Array (Option Value)} {N ps : List Str} {sp : Sp} (lk : K.lookup f = some ⟨oc, od, .func (PySem.W.fnOf name qual params body scope dV kV doc pm an cdv ct), osl⟩) (hcd : PySem.W.codeIn K cdv qual = true) (S : FnScope N ps scope)
    (len : ∀ vs H Q E, sp vs H Q E → vs.length = ps.length)
    (hbody : ∀ (A : Around) (outer : List Env) (s : Shared) (H : Hp) (vs : List V) (Q : VK) (E : XK), Room k (A.deeper (envOfC qual scope s.heap.objs.size f cdv)) → sp vs H Q E →
      ∃ t, PSs (cxOf CX P w K mg base N qual scope f cdv A outer s H E) body t ∧ t { nx := fun _ H' => Q .non H', rt := Q } (start N vs) H) :
    FnOk P w K mg base CX (k + 1) f (PySem.W.fnOf name qual params body scope dV kV doc pm an cdv ct) ps sp := by
  refine ⟨len, fun A outer s H args us vs Q E hr e0 hb r hsp => ?_⟩
  have hl := len _ _ _ _ hsp
  have KX : K.In s.heap := e0.mod.kin.keeps fun b o e => (e0.bs b o e).1
  have lim : s.heap.NoLimit := e0.mod.nolimit.keeps fun b o e => (e0.bs b o e).1
  have hkind : ∀ y ∈ ps.zip us, scope.names.lookup y.1 = some .local ∨ (scope.names.lookup y.1 = some .cell ∧ ((cellsFrom (s.heap.objs.size + 1) scope.names []).lookup y.1).isSome = true) := fun ⟨n, v⟩ hy => by
    rcases S.par n (List.of_mem_zip hy).1 with q | q
    · exact .inl q
    · exact .inr ⟨q, PySem.W.cellsFrom_some _ _ _ (.inl q)⟩
  refine codeAny_call_function hr.depth (KX _ _ lk) rfl S.co S.gen rfl (PySem.W.codeRec_of KX hcd) (hb _ _ _ _ ?_)
  refine wpAny_newFunctionEnv_cells S.kind hkind fun env he s1 x => ?_
  subst he
  refine ⟨lim.keeps x.toInCall.keep, codeAny_func ?_⟩
  obtain ⟨t, ht, hq⟩ := hbody A outer s H vs Q E (hr.deeper _) hsp
  have I : Inv (cxOf CX P w K mg base N qual scope f cdv A outer s H E) [] (start N vs) H s1 := inv_start S hr.hd e0 hl r x
  refine wpAny_mono (ht [] s1 (start N vs) H _ I hq) (fun fl s' hs => ?_) fun e s' hs => hs
  have fin : ∀ {σ' : St} {H' : Hp} {v : V} {u : Value}, Inv (cxOf CX P w K mg base N qual scope f cdv A outer s H E) [] σ' H' s' → RelV v u → Q v H' → CE outer P w H s Q u s' :=
    fun {σ' H' v u} J rv q => ⟨v, H', J.os, J.bare, J.base, J.hok, rv, q⟩
  cases fl with
  | ret u =>
    obtain ⟨v, σ', H', J, rv, q⟩ := hs
    exact fin J rv q
  | next =>
    obtain ⟨σ', H', J, q⟩ := hs
    exact fin (v := V.non) (u := Value.none) J rfl q
  | brk =>
    obtain ⟨_, _, _, q⟩ := hs
    exact False.elim q
  | cont =>
    obtain ⟨_, _, _, q⟩ := hs
    exact False.elim q
end L2
namespace L2
open PySem PySem.Spec PyProof.Rows
section
variable {X : Cx} {x : Str} {p pos : Pos} {e : Expr} {es : List Expr} {t : TA} {id T : String} {r : List V → Hp → VK → Prop}
def tCB (r : List V → Hp → VK → Prop) (t : TA) : TE := fun σ H Q => t σ H fun vs H1 => r vs H1 Q
theorem pe_callB (hc : CallR X (.builtin id) r) (hg : Gl X x) (hm : X.mg x = none) (hv : bootBuiltins x = some (.builtin id)) (ha : PA X (e :: es) t) (hn : x ≠ "__name__" := by decide) (hdb : (x == ("__debug__" : Str)) = false := by decide)
    (he : starEach (e :: es) X.env = (false, eval e X.env) :: starEach es X.env := by rfl) (hpl : (backTo pos (starEach es X.env)).any (·.1) = false := by rfl) : PE X (.Call (.Name x p) (e :: es) [] pos) (tCB r t) := by
  intro pins s σ H Q I h
  refine wpAny_Call_Name_kw (ld_blt I hg hm hv ?_ hn hdb)
  exact PyProof.Rows.callWith_builtin1 (thn (ha pos pins s σ H _ I h) fun us s1 ⟨vs, H1, I1, r1, q1⟩ => hc pins s1 σ H1 vs us Q I1 r1 q1) he hpl
theorem pe_callTy (hc : CallR X (.type T) r) (hg : Gl X x) (hm : X.mg x = none) (hv : bootBuiltins x = some (.type T)) (ha : PA X (e :: es) t) (hn : x ≠ "__name__" := by decide) (hdb : (x == ("__debug__" : Str)) = false := by decide)
    (he : starEach (e :: es) X.env = (false, eval e X.env) :: starEach es X.env := by rfl) (hpl : (backTo pos (starEach es X.env)).any (·.1) = false := by rfl) : PE X (.Call (.Name x p) (e :: es) [] pos) (tCB r t) := by
  intro pins s σ H Q I h
  refine wpAny_Call_Name_kw (ld_blt I hg hm hv ?_ hn hdb)
  exact PyProof.Rows.callWith_type1 (thn (ha pos pins s σ H _ I h) fun us s1 ⟨vs, H1, I1, r1, q1⟩ => hc pins s1 σ H1 vs us Q I1 r1 q1) he hpl
end
end L2
namespace HT
open PySem PyProof.Rows
section
open PySem.SeqAt
open PySem.AutoSeq1 (wpAny_loadPart')
open PySem.MeetsSeq PySem.MeetsSeq2 PySem.MeetsSeq3
end
section
variable {prog : Program} {w : World} {A : Around} {E : Value → Shared → Prop} {s : Shared}
def sIx (n d : Nat) : Option Int → Nat
  | none => d
  | some v => if v < 0 then (v + (n : Int)).toNat else min v.toNat n
theorem sIx_nat (n d k : Nat) : sIx n d (some (k : Int)) = min k n := by
  show (if (k : Int) < 0 then ((k : Int) + (n : Int)).toNat else min (k : Int).toNat n) = min k n
  rw [if_neg (by omega), Int.toNat_natCast]
end
end HT
namespace L2
open PySem PySem.Spec PyProof.Rows
abbrev TO := St → Hp → (Option Int → Hp → Prop) → Prop
def PO (X : Cx) (e : Option Expr) (t : TO) : Prop :=
  ∀ (pins : List (Addr × Obj)) (s : Shared) (σ : St) (H : Hp) (Q : Option Int → Hp → Prop), Inv X pins σ H s → t σ H Q →
    wpAny (model X.prog X.w) X.A (evalPart e X.env) (fun u s' => ∃ o H', Inv X pins σ H' s' ∧ IsPart u o ∧ Q o H') X.xe s
def tPart (t : TE) : TO := fun σ H Q => t σ H fun x H1 => ∃ i, x = .int i ∧ Q (some i) H1
section
variable {X : Cx} {e : Expr} {te : TE} {lo hi : Option Expr} {tl th : TO} {pos p2 : Pos}
theorem po_some (h : PE X e te) : PO X (some e) (tPart te) := by
  intro pins s σ H Q I hw
  rw [evalPart_some]
  refine thn (h pins s σ H _ I hw) fun u s1 ⟨x, H1, I1, r1, q1⟩ => ?_
  obtain ⟨i, rfl, q⟩ := q1
  obtain ⟨t, rfl⟩ := r1
  exact ⟨some i, H1, I1, .int i t, q⟩
def SlR (X : Cx) (r : V → Option Int → Option Int → Hp → VK → Prop) : Prop :=
  ∀ (pins : List (Addr × Obj)) (s : Shared) (σ : St) (H : Hp) (x : V) (v vl vu : Value) (lo hi : Option Int) (sl : Addr) (Q : VK), Inv X pins σ H s → RelV x v → s.heap.IsSliceOf sl vl vu .none → IsPart vl lo → IsPart vu hi → r x lo hi H Q →
    ∃ T id, typeLookup (.type T) "__getitem__" = pure (some (.builtin id)) ∧ s.TypeIs v T ∧ wpAny (model X.prog X.w) X.A (getItem v (.ref sl)) (EP X pins σ Q) X.xe s
def tSl (r : V → Option Int → Option Int → Hp → VK → Prop) (te : TE) (tl th : TO) : TE := fun σ H Q => te σ H fun x H1 => tl σ H1 fun l H2 => th σ H2 fun u H3 => r x l u H3 Q
theorem pe_slice {r : V → Option Int → Option Int → Hp → VK → Prop} (hr : SlR X r) (he : PE X e te) (hl : PO X lo tl) (hu : PO X hi th) : PE X (.Subscript e (.Slice lo hi none p2) pos) (tSl r te tl th) := by
  intro pins s σ H Q I h
  refine Subscript_ (thn (he pins s σ H _ I h) fun v s1 ⟨x, H1, I1, r1, q1⟩ => ?_)
  refine wpAny_Slice (thn (hl pins s1 σ H1 _ I1 q1) fun vl s2 ⟨l, H2, I2, pl, q2⟩ => thn (hu pins s2 σ H2 _ I2 q2) fun vu s3 ⟨u, H3, I3, pu, q3⟩ => ?_)
  rw [evalPart_none]
  refine wpAny_pure ?_
  have I4 : Inv X pins σ H3 { s3 with heap := s3.heap.push { cls := .type "slice", data := .fields #[vl, vu, .none] } } := I3.kept (t' := s3.toks) fun b ob q => Heap.get?_push_of_some _ q
  obtain ⟨T, id, hT, ht, hg⟩ := hr pins { s3 with heap := s3.heap.push { cls := .type "slice", data := .fields #[vl, vu, .none] } } σ H3 x v vl vu l u s3.heap.objs.size Q I4 r1 (Heap.IsSliceOf.new ..) pl pu q3
  show wpAny (model X.prog X.w) X.A (subscriptTail e (.Slice lo hi none p2) v (.ref s3.heap.objs.size)) (EP X pins σ Q) X.xe { s3 with heap := s3.heap.push { cls := .type "slice", data := .fields #[vl, vu, .none] } }
  exact tail_any (ops := [.ref s3.heap.objs.size, v]) ht hT hg (by with_unfolding_all rfl)
def cutV (xs : List V) (lo hi : Option Int) : List V := (xs.drop (HT.sIx xs.length 0 lo)).take (HT.sIx xs.length xs.length hi - HT.sIx xs.length 0 lo)
theorem cutV_length (xs : List V) (lo hi : Option Int) : (cutV xs lo hi).length ≤ xs.length := by
  unfold cutV
  rw [List.length_take, List.length_drop]
  omega
end
end L2
namespace L2
open PySem PySem.Spec PyProof.Rows
def ixN (n : Nat) (i : Int) : Option Nat := if 0 ≤ i then (if i < n then some i.toNat else none) else if -(n : Int) ≤ i then some (i + n).toNat else none
def atI {α : Type} (xs : List α) (i : Int) : Option α := (ixN xs.length i).bind fun j => xs[j]?
theorem ixN_seq {n : Nat} {i : Int} {j : Nat} (h : ixN n i = some j) : seqIndex? i n = some j ∧ j < n ∧ -(n : Int) ≤ i ∧ i < n := by
  unfold ixN at h
  by_cases h0 : 0 ≤ i
  · rw [if_pos h0] at h
    by_cases h1 : i < n
    · rw [if_pos h1] at h
      have e : i.toNat = j := Option.some.inj h
      exact ⟨by rw [seqIndex_of h0 h1, e], by omega, by omega, h1⟩
    · rw [if_neg h1] at h; cases h
  · rw [if_neg h0] at h
    by_cases h1 : -(n : Int) ≤ i
    · rw [if_pos h1] at h
      have e : (i + n).toNat = j := Option.some.inj h
      exact ⟨by rw [seqIndex_neg (by omega) h1, e], by omega, h1, by omega⟩
    · rw [if_neg h1] at h; cases h
theorem atI_get {α : Type} {xs : List α} {i : Int} {v : α} (h : atI xs i = some v) : ∃ j, seqIndex? i xs.length = some j ∧ xs[j]? = some v ∧ j < xs.length ∧ -(xs.length : Int) ≤ i ∧ i < xs.length := by
  unfold atI at h
  cases e : ixN xs.length i with
  | none => rw [e] at h; cases h
  | some j =>
    rw [e] at h
    obtain ⟨h1, h2, h3, h4⟩ := ixN_seq e
    exact ⟨j, h1, h, h2, h3, h4⟩
def PlainIx (b : Expr) : Prop := ∀ o i, subscripted b false o i = operate [o, i] (getItem o i)
def IxR (X : Cx) (r : R2) : Prop :=
  ∀ (value slice : Expr) (pins : List (Addr × Obj)) (s : Shared) (σ : St) (H : Hp) (x y : V) (v u : Value) (Q : VK), Inv X pins σ H s → RelV x v → RelV y u → r x y H Q →
    subscripted slice false v u = operate [v, u] (getItem v u) → wpAny (model X.prog X.w) X.A (subscriptTail value slice v u) (EP X pins σ Q) X.xe s
def MtR (X : Cx) (id : String) (r : V → List V → Hp → VK → Prop) : Prop :=
  ∀ (pins : List (Addr × Obj)) (s : Shared) (σ : St) (H : Hp) (x : V) (xs : List V) (v : Value) (us : List Value) (Q : VK), Inv X pins σ H s → RelV x v → Vals xs us → r x xs H Q →
    wpAny (model X.prog X.w) X.A (call (.builtin id) (v :: us)) (EP X pins σ Q) X.xe s
section
variable {X : Cx} {a b : Expr} {ta tb : TE} {pos : Pos}
theorem IxR.or {r r' : R2} (h : IxR X r) (h' : IxR X r') : IxR X (fun x y H Q => r x y H Q ∨ r' x y H Q) := by
  intro value slice pins s σ H x y v u Q I rx ry q hs
  rcases q with q | q
  · exact h value slice pins s σ H x y v u Q I rx ry q hs
  · exact h' value slice pins s σ H x y v u Q I rx ry q hs
theorem pe_ix {r : R2} (hr : IxR X r) (ha : PE X a ta) (hb : PE X b tb) (hs : PlainIx b) : PE X (.Subscript a b pos) (tOp r ta tb) := by
  intro pins s σ H Q I h
  exact Subscript_ (binT ha hb I h fun v u s2 x y H2 I2 rx ry q => hr a b pins s2 σ H2 x y v u Q I2 rx ry q (hs _ _))
def rIxL (K : PySem.W.Frag) : R2 := fun x y H Q => ∃ p xs i v, x = .ref p ∧ y = .int i ∧ SqL K H p xs ∧ atI xs i = some v ∧ Q v H
def rIxT (K : PySem.W.Frag) : R2 := fun x y H Q => ∃ p xs i v, x = .ref p ∧ y = .int i ∧ SqT K H p xs ∧ atI xs i = some v ∧ Q v H
def rIxS : R2 := fun x y H Q => ∃ z i c, x = .str z ∧ y = .int i ∧ z.length ≤ sizeLine ∧ atI z.cps.toList i = some c ∧ Q (.str ⟨#[c]⟩) H
theorem ix_list : IxR X (rIxL X.K) := by
  intro value slice pins s σ H x y v u Q I rx ry h hs
  obtain ⟨p, xs, i, z, rfl, rfl, hq, he, q⟩ := h
  cases rx
  obtain ⟨t, rfl⟩ := ry
  obtain ⟨its, r, pl, hz⟩ := I.list hq
  obtain ⟨j, h1, h2, h3, h4, h5⟩ := atI_get he
  obtain ⟨w, ew, rw'⟩ := r.get h2
  have hl := r.length
  have hn := line63
  have fin : EP X pins σ Q w s := ⟨z, H, I, rw', q⟩
  by_cases h0 : 0 ≤ i
  · have hj : i.toNat = j := by
      rw [seqIndex_of h0 h5] at h1
      exact Option.some.inj h1
    exact item_listR pl.isList h0 (by omega) (by rw [hj]; simpa using ew) fin hs
  · have hj : (i + (its.toArray.size : Int)).toNat = j := by
      rw [seqIndex_neg (by omega) h4] at h1
      rw [List.size_toArray, ← hl]
      exact Option.some.inj h1
    exact subscriptTail_builtinR (x := w) pl.isList.typeIs slot_list_getitem.lookup
      (wpAny_getItem_list_neg (Q := fun r s' => r = w ∧ EP X pins σ Q r s') pl.isList (by omega) (by rw [List.size_toArray] <;> omega) (by omega) (by rw [hj]; simpa using ew) ⟨rfl, fin⟩) hs
theorem ix_tup : IxR X (rIxT X.K) := by
  intro value slice pins s σ H x y v u Q I rx ry h hs
  obtain ⟨p, xs, i, z, rfl, rfl, hq, he, q⟩ := h
  cases rx
  obtain ⟨t, rfl⟩ := ry
  obtain ⟨its, r, pl, hz⟩ := I.tuple hq
  obtain ⟨j, h1, h2, h3, h4, h5⟩ := atI_get he
  obtain ⟨w, ew, rw'⟩ := r.get h2
  have hl := r.length
  have hn := line63
  have fin : EP X pins σ Q w s := ⟨z, H, I, rw', q⟩
  exact subscriptTail_builtinR (x := w) pl.typeIs slot_tuple_getitem.lookup
    (getItem_tuple (j := j) (Q := fun r s' => r = w ∧ EP X pins σ Q r s') pl (by omega) (by omega) (by rw [List.size_toArray, ← hl]; exact h1) (by simpa using ew) ⟨rfl, fin⟩) hs
theorem ix_str : IxR X rIxS := by
  intro value slice pins s σ H x y v u Q I rx ry h hs
  obtain ⟨z, i, c, rfl, rfl, hz, he, q⟩ := h
  obtain ⟨t, rfl⟩ := rx
  obtain ⟨t', rfl⟩ := ry
  obtain ⟨j, h1, h2, h3, h4, h5⟩ := atI_get he
  have hl : z.cps.toList.length = z.length := by simp [Str.length]
  rw [hl] at h1 h4 h5
  have hn := line63
  exact tail_any (typeIs_str s z t) slot_str_getitem.lookup (getItem_str (c := c) (by
    have e1 : decide (i < -(2 ^ 63 : Int)) = false := decide_eq_false (by omega)
    have e2 : decide (i ≥ 2 ^ 63) = false := decide_eq_false (by omega)
    rw [e1, e2, Bool.or_false]) (by rw [h1]; simpa using h2) ⟨.str ⟨#[c]⟩, H, I.tok _, ⟨_, rfl⟩, q⟩) hs
def rIx (K : PySem.W.Frag) : R2 := fun x y H Q => rIxL K x y H Q ∨ rIxT K x y H Q ∨ rIxS x y H Q
theorem ix_seq : IxR X (rIx X.K) := ix_list.or (ix_tup.or ix_str)
theorem mapSeq_set (its : List Value) (n j : Nat) (u : Value) : Obj.mapSeq (·.setIfInBounds j u) { cls := .type "list", data := .seq its.toArray n } = { cls := .type "list", data := .seq (its.set j u).toArray n } := by
  simp [Obj.mapSeq]
theorem Inv.lst {pins : List (Addr × Obj)} {σ : St} {H : Hp} {s : Shared} {p : Addr} {xs : List V} (I : Inv X pins σ H s) (h : H p = some (.lst xs)) :
    ∃ (its : List Value) (n : Nat), Vals xs its ∧ s.heap.get? p = some { cls := .type "list", data := .seq its.toArray n } ∧ xs.length ≤ sizeLine := by
  obtain ⟨z, its, n, r, e⟩ := I.hok p _ h
  exact ⟨its, n, r, e, z⟩
theorem Inv.lstUpd {pins : List (Addr × Obj)} {σ : St} {H : Hp} {s : Shared} {p : Addr} {xs ys : List V} {its its' : List Value} {n n' : Nat} {f : Obj → Obj} (I : Inv X pins σ H s) (h : H p = some (.lst xs))
    (ho : s.heap.get? p = some { cls := .type "list", data := .seq its.toArray n }) (hf : f { cls := .type "list", data := .seq its.toArray n } = { cls := .type "list", data := .seq its'.toArray n' }) (r : Vals ys its') (hz : ys.length ≤ sizeLine) (t : Nat) :
    Inv X pins σ (upd H p (.lst ys)) { s with heap := s.heap.update p f, toks := t } := by
  have e : (s.heap.update p f).get? p = some { cls := .type "list", data := .seq its'.toArray n' } := by
    rw [Heap.get?_update_self f ho (by rw [hf] <;> rfl), hf]
  refine I.write (x := p) (e := p) (by rw [h]; trivial) (.inl rfl) (fun b u hb q => (Heap.get?_update_other _ _ (Ne.symm hb)).trans q) ⟨_, e⟩ ?_
  exact ⟨hz, its', n', r, e⟩
def rSetL : V → V → V → Hp → (Hp → Prop) → Prop := fun o i v H Q => ∃ p xs k j, o = .ref p ∧ i = .int k ∧ H p = some (.lst xs) ∧ ixN xs.length k = some j ∧ Q (upd H p (.lst (xs.set j v)))
theorem set_list : PSet X rSetL := by
  intro pins s σ H o i v ov iv u Q I ro ri rv h
  obtain ⟨p, xs, k, j, rfl, rfl, hp, hj, q⟩ := h
  cases ro
  obtain ⟨t, rfl⟩ := ri
  obtain ⟨its, n, r, ho, hz⟩ := I.lst hp
  obtain ⟨h1, h2, h3, h4⟩ := ixN_seq hj
  have hl := r.length
  have hn := line63
  have I' : Inv X pins σ (upd H p (.lst (xs.set j v))) { s with heap := s.heap.update p (Obj.mapSeq (·.setIfInBounds j u)) } :=
    I.lstUpd hp ho (mapSeq_set its n j u) (r.set rv j) (by rw [List.length_set]; exact hz) s.toks
  by_cases h0 : 0 ≤ k
  · have hk : k.toNat = j := by
      rw [seqIndex_of h0 h4] at h1
      exact Option.some.inj h1
    exact PySem.W.ki_setAt ho h0 (by omega) (by rw [List.size_toArray, ← hl]; exact h4) (by rw [hk]; exact ⟨_, I', q⟩)
  · have hk : (k + (its.toArray.size : Int)).toNat = j := by
      rw [seqIndex_neg (by omega) h3] at h1
      rw [List.size_toArray, ← hl]
      exact Option.some.inj h1
    exact PySem.W.ki_setBack ho (by omega) (by rw [List.size_toArray, ← hl]; exact h3) (by omega) (by rw [hk]; exact ⟨_, I', q⟩)
theorem slice_bounds (lo hi : Option Int) (n : Nat) : (sliceBounds lo hi none n).1 = ((HT.sIx n 0 lo : Nat) : Int) ∧ (sliceBounds lo hi none n).2.1 = ((HT.sIx n n hi : Nat) : Int) ∧ (sliceBounds lo hi none n).2.2 = 1 := by
  refine ⟨?_, ?_, rfl⟩
  · cases lo with
    | none => simp [sliceBounds, HT.sIx]
    | some i =>
      simp only [sliceBounds, HT.sIx, Option.getD_none, show (1 : Int) > 0 by decide, if_true]
      by_cases h : i < 0
      · simp only [h, if_true] <;> omega
      · simp only [h, if_false] <;> omega
  · cases hi with
    | none => simp [sliceBounds, HT.sIx]
    | some i =>
      simp only [sliceBounds, HT.sIx, Option.getD_none, show (1 : Int) > 0 by decide, if_true]
      by_cases h : i < 0
      · simp only [h, if_true] <;> omega
      · simp only [h, if_false] <;> omega
theorem slicePick_cut (its : List Value) (lo hi : Option Int) : slicePick its.toArray lo hi none = ((its.drop (HT.sIx its.length 0 lo)).take (HT.sIx its.length its.length hi - HT.sIx its.length 0 lo)).toArray := by
  obtain ⟨h1, h2, h3⟩ := slice_bounds lo hi its.toArray.size
  unfold slicePick
  rw [h1, h2, h3]
  simp only [sliceRange_one, pick_run, List.size_toArray] <;> rfl
def rSlL (K : PySem.W.Frag) : V → Option Int → Option Int → Hp → VK → Prop := fun x lo hi H Q => ∃ a xs, x = .ref a ∧ SqL K H a xs ∧ ∀ p, H p = none → Q (.ref p) (upd H p (.lst (cutV xs lo hi)))
theorem sl_list : SlR X (rSlL X.K) := by
  intro pins s σ H x v vl vu lo hi sl Q I rx hs pl pu h
  obtain ⟨a, xs, rfl, hx, q⟩ := h
  cases rx
  obtain ⟨its, r, ht, hz⟩ := I.list hx
  have hlen := r.length
  refine ⟨"list", _, slot_list_getitem.lookup, ht.isList.typeIs, ?_⟩
  refine wpAny_getItem_list_slice ht.isList hs pl pu .none (by simp) ?_ (by rw [List.size_toArray] <;> omega)
  rw [slicePick_cut, ← hlen]
  refine ⟨.ref s.heap.objs.size, _, I.laid (t' := s.toks) (o := .lst (cutV xs lo hi)) (fun b ob q => Heap.get?_push_of_some _ q) (Nat.le_refl _) ?_, rfl, q _ (I.hok.fresh (Nat.le_refl _))⟩
  exact ⟨Nat.le_trans (cutV_length xs lo hi) hz, _, 0, (r.drop (HT.sIx xs.length 0 lo)).take (HT.sIx xs.length xs.length hi - HT.sIx xs.length 0 lo), Heap.get?_push_size _ rfl⟩
theorem call_len_seq : CallR X (.builtin "len") (fun xs H Q => ∃ p ys, xs = [.ref p] ∧ (SqL X.K H p ys ∨ SqT X.K H p ys) ∧ Q (.int ys.length) H) := by
  intro pins s σ H xs us Q I r h
  obtain ⟨p, ys, rfl, hq, q⟩ := h
  obtain ⟨u, rfl, rx⟩ := vals1 r
  cases rx
  have hn := line63
  rcases hq with hq | hq
  · obtain ⟨its, r', pl, hz⟩ := I.list hq
    have hlen := r'.length
    exact Calls.call_len_list pl.isList (by simp only [List.size_toArray] <;> omega) ⟨.int ys.length, H, I.tok _, ⟨s.toks + 1, by rw [List.size_toArray, hlen]⟩, q⟩
  · obtain ⟨its, r', pl, hz⟩ := I.tuple hq
    have hlen := r'.length
    exact len_tuple pl (by simp only [List.size_toArray] <;> omega) ⟨.int ys.length, H, I.tok _, ⟨s.toks + 1, by rw [List.size_toArray, hlen]⟩, q⟩
theorem call_list_of : CallR X (.type "list") (fun xs H Q => ∃ p ys, xs = [.ref p] ∧ (SqL X.K H p ys ∨ SqT X.K H p ys) ∧ ∀ l, H l = none → Q (.ref l) (upd H l (.lst ys))) := by
  intro pins s σ H xs us Q I r h
  obtain ⟨p, ys, rfl, hq, q⟩ := h
  obtain ⟨u, rfl, rx⟩ := vals1 r
  cases rx
  have fin : ∀ (its : List Value), Vals ys its → ys.length ≤ sizeLine → ∀ (h' : Heap) (c' : Nat), (∀ b o', s.heap.get? b = some o' → h'.get? b = some o') →
      h'.get? s.heap.objs.size = some { cls := .type "list", dict := none, data := .seq its.toArray c', slots := #[] } → EP X pins σ Q (.ref s.heap.objs.size) { s with heap := h' } := fun its r' hz h' c' kp e =>
    ⟨.ref s.heap.objs.size, _, I.laid (t' := s.toks) kp (Nat.le_refl _) (show ObjOk X.prog X.w _ h' _ (.lst ys) from ⟨hz, its, c', r', e⟩), rfl, q _ (I.hok.fresh (Nat.le_refl _))⟩
  rcases hq with hq | hq
  · obtain ⟨its, r', pl, hz⟩ := I.list hq
    have hlen := r'.length
    obtain ⟨o, ho, hc, n, hd⟩ := pl.isList
    exact call_list_seq p (.inl rfl) ho hc hd (fun h' c' kp e => fin its r' hz h' c' kp e) (by simp only [List.size_toArray] <;> omega)
  · obtain ⟨its, r', pl, hz⟩ := I.tuple hq
    have hlen := r'.length
    obtain ⟨o, ho, hc, n, hd⟩ := pl
    exact call_list_seq p (.inr rfl) ho hc hd (fun h' c' kp e => fin its r' hz h' c' kp e) (by simp only [List.size_toArray] <;> omega)
def tyV (K : PySem.W.Frag) (T : String) (x : V) (H : Hp) : Prop := match x with
  | .str _ => T = "str"
  | .int _ => T = "int"
  | .ref p => (T = "list" ∧ ∃ xs, SqL K H p xs) ∨ (T = "tuple" ∧ ∃ o, K.lookup p = some o ∧ o.cls = .type "tuple" ∧ o.dict = none) ∨
      (T = "dict" ∧ ((∃ kvs, H p = some (.dK kvs)) ∨ ∃ kvs, H p = some (.dT kvs))) ∨ (T = "set" ∧ ∃ S n, H p = some (.set S n))
  | _ => False
theorem tyV_is {pins : List (Addr × Obj)} {σ : St} {H : Hp} {s : Shared} {T : String} {x : V} {v : Value} (I : Inv X pins σ H s) (r : RelV x v) (ty : tyV X.K T x H) :
    s.TypeIs v T ∧ ∀ a, v = .ref a → ∃ ob, s.heap.get? a = some ob ∧ ob.dict = none := by
  cases x with
  | str z =>
    obtain ⟨t, rfl⟩ := r
    cases (show T = "str" from ty)
    exact ⟨typeIs_str s z t, fun _ e => nomatch e⟩
  | int i =>
    obtain ⟨t, rfl⟩ := r
    cases (show T = "int" from ty)
    exact ⟨typeIs_int s i t, fun _ e => nomatch e⟩
  | ref p =>
    cases r
    rcases ty with ⟨rfl, xs, hq⟩ | ⟨rfl, o, hk, hc, hd⟩ | ⟨rfl, hk⟩ | ⟨rfl, S, n, hk⟩
    · obtain ⟨its, _, pl, _⟩ := I.list hq
      refine ⟨pl.isList.typeIs, fun a e => ?_⟩
      cases e
      obtain ⟨o, n, e, c, hd, _⟩ := pl
      exact ⟨o, e, hd⟩
    · refine ⟨⟨o, I.kIn p o hk, hc⟩, fun a e => ?_⟩
      cases e
      exact ⟨o, I.kIn _ o hk, hd⟩
    · have z : ∃ o, s.heap.get? p = some o ∧ o.ExactDict := by
        rcases hk with ⟨kvs, hk⟩ | ⟨kvs, hk⟩
        · obtain ⟨_, _, _, _, o, _, _, e, ex, _⟩ := I.hok p _ hk
          exact ⟨o, e, ex⟩
        · obtain ⟨_, _, _, _, o, _, _, e, ex, _⟩ := I.hok p _ hk
          exact ⟨o, e, ex⟩
      obtain ⟨o, e, ex⟩ := z
      refine ⟨⟨o, e, ex.1⟩, fun a e2 => ?_⟩
      cases e2
      exact ⟨o, e, ex.2.1⟩
    · obtain ⟨o, _, _, _, e, ex, _⟩ := I.hok p _ hk
      refine ⟨⟨o, e, ex.1⟩, fun a e2 => ?_⟩
      cases e2
      exact ⟨o, e, ex.2.1⟩
  | _ => exact False.elim ty
def tBM0 (K : PySem.W.Frag) (T : String) (r : V → List V → Hp → VK → Prop) (to : TE) : TE := fun σ H Q => to σ H fun x H1 => tyV K T x H1 ∧ r x [] H1 Q
def tBM (K : PySem.W.Frag) (T : String) (r : V → List V → Hp → VK → Prop) (to : TE) (t : TA) : TE := fun σ H Q => to σ H fun x H1 => tyV K T x H1 ∧ t σ H1 fun xs H2 => r x xs H2 Q
variable {o e : Expr} {es : List Expr} {to : TE} {t : TA} {name : Str} {apos cpos : Pos} {T id : String} {r : V → List V → Hp → VK → Prop}
theorem pe_bm0 (pa : PlainAttrs T) (slot : Slot T name id) (hty : typeOf (.builtin id) = pure (.type "method_descriptor")) (hm : MtR X id r) (ho : PE X o to)
    (hbase : attributeBase o name X.env (eval o X.env) = eval o X.env := by rfl) (hline : (apos.endLine == cpos.line) = true := by rfl) : PE X (.Call (.Attribute o name apos) [] [] cpos) (tBM0 X.K T r to) := by
  intro pins s σ H Q I h
  refine wpAny_Call_method0_late hbase hline (thn (ho pins s σ H _ I h) fun v s1 ⟨x, H1, I1, r1, ty, q1⟩ => ?_)
  obtain ⟨h1, h2⟩ := tyV_is I1 r1 ty
  exact ⟨T, id, pa, slot, hty, h1, h2, Calls.callWith_builtin rfl (PySem.evalArgs_none (hm pins s1 σ H1 x [] v [] Q I1 r1 .nil q1))⟩
theorem pe_bm (pa : PlainAttrs T) (slot : Slot T name id) (hty : typeOf (.builtin id) = pure (.type "method_descriptor")) (hm : MtR X id r) (ho : PE X o to) (ha : PA X (e :: es) t)
    (hbase : attributeBase o name X.env (eval o X.env) = eval o X.env := by rfl)
    (hfew : ((backTo cpos (starEach (e :: es) X.env)).all (fun x => !x.1) && (backToKw cpos (keywordEach [] X.env)).all (fun x => x.1.isSome)
      && decide ((e :: es).length + ([] : List Keyword).length + (if ([] : List Keyword).isEmpty then 0 else 1) < 30)) = true := by rfl)
    (hline : (apos.endLine == cpos.line) = true := by rfl) (hs : starEach (e :: es) X.env = (false, eval e X.env) :: starEach es X.env := by rfl) (hplain : (backTo cpos (starEach es X.env)).any (·.1) = false := by rfl) :
    PE X (.Call (.Attribute o name apos) (e :: es) [] cpos) (tBM X.K T r to t) := by
  intro pins s σ H Q I h
  refine wpAny_Call_method_late hbase hfew hline rfl (thn (ho pins s σ H _ I h) fun v s1 ⟨x, H1, I1, r1, ty, q1⟩ => ?_)
  obtain ⟨h1, h2⟩ := tyV_is I1 r1 ty
  refine ⟨T, id, pa, slot, hty, h1, h2, ?_⟩
  have hA := ha cpos pins s1 σ H1 _ I1 q1
  rw [hs] at hA ⊢
  refine Calls.callWith_builtin (by show (false || (backTo cpos (starEach es X.env)).any (·.1)) = false; rw [hplain] <;> rfl) (Calls.evalArgs_plain ?_)
  exact thn hA fun us s2 ⟨vs, H2, I2, r2, q2⟩ => hm pins s2 σ H2 x vs v us Q I2 r1 r2 q2
/- xs.append(e), list.index on a module's tuple .. are MtR facts of 06m -/
end
end L2
namespace L2
open PySem PySem.Spec PyProof.Rows
def MtM (X : Cx) (id : String) (r : V → List V → Hp → VK → Prop) : Prop :=
  ∀ (pins : List (Addr × Obj)) (s : Shared) (σ : St) (H : Hp) (x : V) (xs : List V) (v : Value) (us : List Value) (Q : VK), Inv X pins σ H s → RelV x v → Vals xs us → r x xs H Q →
    wpAny (model X.prog X.w) X.A (call (.builtin id) (v :: us)) (EP X pins σ Q) X.xe s
theorem Vals.one : ∀ {x : V} {us : List Value}, Vals [x] us → ∃ u, us = [u] ∧ RelV x u
  | _, _, .cons r .nil => ⟨_, rfl, r⟩
theorem Vals.eraseIdx : ∀ {xs : List V} {us : List Value} (i : Nat), Vals xs us → Vals (xs.eraseIdx i) (us.eraseIdx i)
  | _, _, _, .nil => .nil
  | _, _, 0, .cons _ t => t
  | _, _, i + 1, .cons r t => .cons r (Vals.eraseIdx i t)
theorem len_erase {α : Type} : ∀ (l : List α) (i : Nat), (l.eraseIdx i).length ≤ l.length
  | [], _ => Nat.le_refl _
  | _ :: _, 0 => Nat.le_succ _
  | _ :: r, i + 1 => Nat.succ_le_succ (len_erase r i)
section
variable {X : Cx} {pins : List (Addr × Obj)} {σ : St} {H : Hp} {s : Shared} {l b : Addr} {xs ys zs : List V}
theorem Inv.lset {its its' : List Value} {n : Nat} {f : Array Value → Array Value} {t' : Nat} (I : Inv X pins σ H s) (hH : H l = some (.lst xs))
    (e : s.heap.get? l = some { cls := .type "list", data := .seq its.toArray n }) (hf : f its.toArray = its'.toArray) (hv : Vals ys its') (hz : ys.length ≤ sizeLine) :
    Inv X pins σ (upd H l (.lst ys)) { s with heap := s.heap.update l (Obj.mapSeq f), toks := t' } := by
  have q := PySem.IsL.update e f
  rw [hf] at q
  refine I.write (x := l) (e := l) (by rw [hH]; exact trivial) (.inl rfl) (fun b' u hb hu => (Heap.get?_update_other s.heap (Obj.mapSeq f) (Ne.symm hb)).trans hu) ⟨_, q⟩ ?_
  exact ⟨hz, its', _, hv, q⟩
theorem Inv.lnew {its : List Value} {t' : Nat} (I : Inv X pins σ H s) (hv : Vals ys its) (hz : ys.length ≤ sizeLine) :
    Inv X pins σ (upd H s.heap.objs.size (.lst ys)) { s with heap := s.heap.push { cls := .type "list", data := .seq its.toArray }, toks := t' } :=
  I.laid (fun _ _ q => Heap.get?_push_of_some _ q) (Nat.le_refl _) ⟨hz, its, 0, hv, Heap.get?_push_size _ rfl⟩
theorem Inv.fresh (I : Inv X pins σ H s) : H s.heap.objs.size = none := I.hok.fresh (Nat.le_refl _)
theorem Inv.lstM (I : Inv X pins σ H s) (hH : H l = some (.lst xs)) : xs.length ≤ sizeLine ∧ ∃ (its : List Value) (n : Nat), Vals xs its ∧ xs.length = its.length ∧ s.heap.get? l = some { cls := .type "list", data := .seq its.toArray n } := by
  obtain ⟨z, its, n, r, e⟩ := I.hok l _ hH
  exact ⟨z, its, n, r, r.length, e⟩
theorem notLongL {n : Nat} (h : n ≤ sizeLine) : Builtin.List.listTooLong n = false := by
  unfold Builtin.List.listTooLong
  exact decide_eq_false (by omega)
end
section
variable {X : Cx}
def rAppend : V → List V → Hp → VK → Prop := fun x vs H Q => ∃ l xs y, x = .ref l ∧ vs = [y] ∧ H l = some (.lst xs) ∧ xs.length < sizeLine ∧ Q .non (upd H l (.lst (xs ++ [y])))
theorem mt_append : MtM X "list.append" rAppend := by
  intro pins s σ H x vs v us Q I rx rv h
  obtain ⟨l, xs, y, rfl, rfl, hH, hz, q⟩ := h
  cases rx
  obtain ⟨u, rfl, ru⟩ := rv.one
  obtain ⟨z, its, n, r, hl, e⟩ := I.lstM hH
  refine call_meets F.slot_list_append ⟨_, e, rfl⟩ F.entry_list_append (F.args_list_append_2 _ _) (PySem.list_append l its.toArray n u (by rw [List.size_toArray]; omega)) ⟨e, ?_⟩
  refine ⟨.non, _, I.lset (its' := its ++ [u]) hH e (by simp) (r.append (.cons ru .nil)) ?_, rfl, q⟩
  rw [List.length_append, List.length_singleton]
  omega
def rPopAt : V → List V → Hp → VK → Prop := fun x vs H Q => ∃ l xs i k y, x = .ref l ∧ vs = [.int i] ∧ H l = some (.lst xs) ∧ -(2 ^ 63) ≤ i ∧ i < 2 ^ 63 ∧ seqIndex? i xs.length = some k ∧ xs[k]? = some y ∧ Q y (upd H l (.lst (xs.eraseIdx k)))
theorem mt_popAt : MtM X "list.pop" rPopAt := by
  intro pins s σ H x vs v us Q I rx rv h
  obtain ⟨l, xs, i, k, y, rfl, rfl, hH, h1, h2, hk, hy, q⟩ := h
  cases rx
  obtain ⟨u, rfl, ru⟩ := rv.one
  obtain ⟨t, rfl⟩ := ru
  obtain ⟨z, its, n, r, hl, e⟩ := I.lstM hH
  obtain ⟨w, hw, rw'⟩ := r.get hy
  refine call_meets F.slot_list_pop ⟨_, e, rfl⟩ F.entry_list_pop (F.args_list_pop_2 _ _)
    (MeetsSeq.list_pop_at l its.toArray n i t k w (fitsIndex_both h1 h2) (by rw [List.size_toArray, ← hl]; exact hk) (by rw [← Array.getElem?_toList]; exact hw) (by rw [List.size_toArray]; omega)) ⟨e, ?_⟩
  refine ⟨y, _, I.lset (its' := its.eraseIdx k) hH e ?_ (r.eraseIdx k) ?_, rw', q⟩
  · show its.toArray.eraseIdxIfInBounds k = (its.eraseIdx k).toArray
    rw [List.eraseIdxIfInBounds_toArray]
  · have := len_erase xs k
    omega
end
section
variable {prog : Program} {w : World} {A : Around} {E : Value → Shared → Prop} {s : Shared}
set_option maxRecDepth 100000 in
end
section
variable {X : Cx}
end
end L2
namespace Att
open PySem PySem.W PySem.Calls PyProof.Rows
theorem ints_of_wellAll {P : Params} {h : Heap} : ∀ (ns : List Int) (vs : List Value), WellAll P h vs (ns.map WData.int) → IntsAre vs ns := by
  intro ns
  induction ns with
  | nil =>
    intro vs w
    rw [List.map_nil] at w
    cases w
    exact .nil
  | cons n ns ih =>
    intro vs w
    rw [List.map_cons] at w
    cases w with
    | cons a b =>
      cases a
      exact .cons _ _ (ih _ b)
theorem script_of {l : OpenLaw} {n : Nat} (hn : l.most = some n) {P : Params} {h : Heap} {args : List WData} {vals : List Value}
    (hpre : l.row.toRowW.claim.pre args = true) (hwl : WellAll P h vals args) :
    ∃ a vs ns, vals = [Value.ref a] ∧ args = [WData.list (ns.map WData.int)] ∧ h.get? a = some { cls := .type "list", data := .seq vs.toArray } ∧ IntsAre vs ns ∧ ns.length ≤ n := by
  have hsh : WShape.hasAll [] args [.list .int] = true := (pre_splitW hpre).1
  have hc : l.pre.holds [] { args := args } = true := (pre_splitW hpre).2
  obtain ⟨d, r, rfl, h1, h2⟩ := hasAllW_cons hsh
  obtain rfl := hasAllW_nil h2
  obtain ⟨xs, rfl, h3⟩ := hasW_list h1
  obtain ⟨ns, rfl⟩ := items_int h3
  have hlen : ns.length ≤ n := by
    unfold OpenLaw.pre at hc
    have h4 : (WTm.not (.lt (.lit (.int (n : Int))) (.len (.arg 0)))).holds [] { args := [.list (ns.map .int)] } = true := by
      have h4 := (holds_andW hc).1
      rw [hn] at h4
      exact h4
    have h5 := condW_of h4 (w_not (w_lt w_lit (w_len_list (w_arg rfl))))
    rw [List.length_map] at h5
    refine Nat.le_of_not_lt fun q => ?_
    have q' : (n : Int) < ((ns.length : Nat) : Int) := by omega
    first
      | (rw [decide_eq_true q'] at h5; exact absurd h5 (by decide))
      | (simp at h5; omega)
  cases hwl with
  | cons w1 w2 =>
    cases w2
    cases w1 with
    | list ho hall => exact ⟨_, _, ns, rfl, rfl, ho, ints_of_wellAll ns _ hall, hlen⟩
theorem post_true (l : OpenLaw) (args : List WData) : l.row.toRowW.claim.post args (.bool true) args = true :=
  postW_of (r := l.row.toRowW) (X := (true == true))
    (show WShape.has [] (.bool true) .bool = true by first | rfl | decide | simp [WShape.has, WShape.arms, WShape.armsAll])
    (show (WTm.eq .res (.lit (.bool true))).value [] { args := args, res := some (.bool true), after := args } = some (.bool (true == true)) from w_eq_bool (w_res rfl) w_lit) rfl
theorem attach_call {l : OpenLaw} {n : Nat} {q : Program} {loose : List Str} {XP : (Str → Option Value) → Heap → Prop} {YP : World → Heap → Prop} {d : DefRec}
    (hn : l.most = some n) (hdf : d.params.defaults = [])
    (call : ∀ (w : World) (s₀ s₁ : Shared) (mg mb : Str → Option Value) (fa : Addr) (o : Obj) (pm cd doc : Value) (a : Addr) (vs : List Value) (ns : List Int),
      Ground q loose [] XP w s₀ mg mb s₁.heap → YP w s₁.heap →
      s₁.heap.get? fa = some o → o.data = .func (docDef d.name d.params d.body d.scope pm cd doc) → s₁.heap.CodeRec cd d.name → mg d.name = some (.ref fa) →
      s₁.heap.get? a = some { cls := .type "list", data := .seq vs.toArray } → IntsAre vs ns → ns.length ≤ n → s₁.gens = #[] →
      codeAny (model l.prog w) callerA (.call (.ref fa) ⟨[.ref a], []⟩) (fun r s' => r = .ok (.ret (.bool true)) ∧ OldK s₁.heap s'.heap ∧ s'.os = s₁.os ∧ AllBare s'.gens) s₁) :
    WalkO q loose XP YP l.row.toRowW d [] (fun f vs => PySem.call f vs) := by
  intro w s₀ s₁ mg mb G Y fa o pm cd doc dV kV ho hd hcd hD hmg hg args vals as hpre hlay hrd hwl hlo
  obtain rfl : dV = .none := Dflts.none hD hdf
  obtain rfl : kV = .none := Dflts.noKw hD
  obtain ⟨a, vs, ns, rfl, rfl, hobj, hints, hlen⟩ := script_of hn hpre hwl
  refine enter_call (codeAny_mono (call w s₀ s₁ mg mb fa o pm cd doc a vs ns G Y ho (fd_plain hd) hcd hmg hobj hints hlen hg) fun r s' hq => ?_)
  obtain ⟨rfl, h2, h3, h4⟩ := hq
  exact ⟨.inl ⟨.bool true, .bool true, [], rfl, fun _ => rfl, .bool true, post_true l _, fun _ => ⟨List.Pairwise.nil, fun _ hm => (nomatch hm)⟩⟩, h2, h3, h4⟩
section
variable {prog : Program} {w : World} {A : Around} {E : Value → Shared → Prop} {s : Shared} {K : Frag}
def ledger (h : Heap) (L d : Addr) : List (Addr × Obj) := (List.range h.objs.size).filterMap fun a => if a = L ∨ a = d then none else (h.get? a).map fun o => (a, o)
end
end Att
namespace L2
open PySem PySem.Spec PyProof.Rows
theorem vals_ints : ∀ {vs : List Value} {ns : List Int}, IntsAre vs ns → Vals (ns.map V.int) vs
  | _, _, .nil => .nil
  | _, _, .cons n t h => .cons ⟨t, rfl⟩ (vals_ints h)
def Only (H : Hp) : Prop := ∀ b, H b = none ∨ ∃ o xs, H b = some (.frz o (.lst xs))
theorem law_call {P : Program} {w : World} {K : PySem.W.Frag} {mg mb : Str → Option Value} {CX : CXT} {k : Nat} {fa a : Addr} {fd : FuncData} {x : Str} {sp : Sp} {s₁ : Shared} {vs : List Value} {ns : List Int}
    (KX : K.In s₁.heap) (hns : s₁.heap.Ns mainGlobals mg) (hb : s₁.heap.Ns builtinsNs mb) (hbb : ∀ x : Str, x ≠ "__name__" → mb x = bootBuiltins x) (hlim : s₁.heap.NoLimit) (hg : s₁.gens = #[])
    (ha : s₁.heap.get? a = some { cls := .type "list", data := .seq vs.toArray }) (hi : IntsAre vs ns) (hl : ns.length ≤ sizeLine) (hr : Room k callerA)
    (F : ∀ base : Heap, K.In base → base.Ns mainGlobals mg → FnOk P w K mg base CX k fa fd [x] sp) (hbind : ∀ (s : Shared) (u : Value), BindsTo s fd ⟨[u], []⟩ [(x, u)])
    (hsp : ∀ H : Hp, Only H → SqL K H a (ns.map V.int) → sp [.ref a] H (fun v _ => v = .bl true) fun _ _ _ => False)
    (hCX : ∀ H e s', CX [] H s₁ (fun _ _ _ => False) e s' → False) :
    codeAny (model P w) callerA (.call (.ref fa) ⟨[.ref a], []⟩) (fun r s' => r = .ok (.ret (.bool true)) ∧ OldK s₁.heap s'.heap ∧ s'.os = s₁.os ∧ AllBare s'.gens) s₁ := by
  have rv := vals_ints hi
  have lenV := hi.length
  have core : ∀ H : Hp, Only H → SqL K H a (ns.map V.int) → HOk P w H s₁.heap → (∀ b, H b ≠ none → b = a) → (H a ≠ none → K.lookup a = none) →
      codeAny (model P w) callerA (.call (.ref fa) ⟨[.ref a], []⟩) (fun r s' => r = .ok (.ret (.bool true)) ∧ OldK s₁.heap s'.heap ∧ s'.os = s₁.os ∧ AllBare s'.gens) s₁ := by
    intro H hO hS hok hA hK
    have base_of : ∀ {b : Addr} {o : Obj}, s₁.heap.get? b = some o → H b = none → (hidT s₁.heap H).get? b = some o := fun e n => hidT_get e n
    have noA : ∀ {b : Addr} {o : Obj} {es : Array DictEntry} {ep : Nat}, s₁.heap.get? b = some o → o.data = .dict es ep → H b = none := fun {b o es ep} e d => by
      cases q : H b with
      | none => rfl
      | some u =>
        have e' : b = a := hA b (by rw [q]; simp)
        subst e'
        rw [ha] at e; cases e
        have d' : Data.seq vs.toArray _ = Data.dict es ep := d
        cases d'
    have nsK : ∀ {b : Addr} {m : Str → Option Value}, s₁.heap.Ns b m → (hidT s₁.heap H).Ns b m := fun {b m} ⟨o, es, ep, e, d, r⟩ => ⟨o, es, ep, base_of e (noA e d), d, r⟩
    have hKb : K.In (hidT s₁.heap H) := fun b o e => base_of (KX b o e) (by
      cases q : H b with
      | none => rfl
      | some u =>
        have e' : b = a := hA b (by rw [q]; simp)
        subst e'
        rw [hK (by rw [q]; simp)] at e; cases e)
    have hM : Mod K mg (hidT s₁.heap H) := ⟨hKb, nsK hns, ⟨mb, nsK hb, hbb⟩, let ⟨mc, h1, h2⟩ := hlim; ⟨mc, nsK h1, h2⟩⟩
    have e0 : Env0 P w K mg (hidT s₁.heap H) callerA [] s₁ H := ⟨rfl, hM, fun b o e => of_hidT e, Nat.le_of_eq (hidT_size _ _), trivial, fun b hb => absurd (show b ∈ ([] : List Addr) from hb) (by simp), hok, .of_eq hg⟩
    refine codeAny_mono ((F _ hKb (nsK hns)).run callerA [] s₁ H ⟨[.ref a], []⟩ [.ref a] [.ref a] _ _ hr e0 (hbind s₁ (.ref a)) (.cons rfl .nil) (hsp H hO hS)) fun r s' h => ?_
    cases r with
    | error e => exact (hCX H e s' h).elim
    | ok fl =>
      cases fl with
      | next => exact False.elim h
      | brk => exact False.elim h
      | cont => exact False.elim h
      | ret u =>
        obtain ⟨v, H', os, bare, un, hok', r', q⟩ := h
        have q' : v = .bl true := q
        subst q'
        obtain rfl : u = Value.bool true := r'
        refine ⟨rfl, OldK.of_keep fun b o e => ?_, os, bare⟩
        cases q : H b with
        | none => exact un.keep b o e q (by intro z; exact absurd (show b ∈ ([] : List Addr) from z) (by simp)) (by simp)
        | some u =>
          rcases hO b with z | ⟨ob, xs, z⟩
          · rw [q] at z; cases z
          · have z2 := un.frzs b ob _ z
            obtain ⟨e1, _⟩ := hok b _ z
            obtain ⟨e2, _⟩ := hok' b _ z2
            rw [e] at e1; cases e1
            exact e2
  cases hk : K.lookup a with
  | some o =>
    have e := KX a o hk
    rw [ha] at e
    cases e
    refine core (fun _ => none) (fun _ => .inl rfl) (.inr ⟨_, vs.toArray, _, hk, rfl, rfl, rfl, by rw [List.size_toArray, lenV]; exact hl, by simpa using rv⟩) (fun b u z => by have z' : (none : Option HO) = some u := z; cases z') (fun b z => absurd rfl z) fun z => absurd rfl z
  | none =>
    refine core (fun b => if b = a then some (.frz { cls := .type "list", data := .seq vs.toArray } (.lst (ns.map V.int))) else none) (fun b => ?_) (.inl (.inr ⟨{ cls := .type "list", data := .seq vs.toArray }, if_pos rfl⟩)) (fun b u z => ?_) (fun b z => ?_) fun _ => hk
    · by_cases hb : b = a
      · exact .inr ⟨_, _, if_pos hb⟩
      · exact .inl (if_neg hb)
    · by_cases hb : b = a
      · have z' := (if_pos hb).symm.trans z
        cases z'
        subst hb
        exact ⟨ha, by rw [List.length_map]; exact hl, vs, _, rv, ha⟩
      · have z' := (if_neg hb).symm.trans z
        cases z'
    · by_cases hb : b = a
      · exact hb
      · exact absurd (if_neg hb) z
end L2
namespace L2
open PySem PySem.Spec PyProof.Rows
abbrev KOf {K : PySem.W.Frag} {h : Heap} (_ : K.In h) : PySem.W.Frag := K
theorem walk_of {l : PySem.W.OpenLaw} {n k : Nat} {q : Program} {loose : List Str} {XP : (Str → Option Value) → Heap → Prop} {YP : World → Heap → Prop} {d : DefRec} {K : Params → PySem.W.Frag} {CX : World → CXT} {sp : World → Sp} {x : Str}
    (hn : l.most = some n) (hn2 : n ≤ sizeLine) (hdf : d.params.defaults = []) (hr : Room k callerA)
    (hY : ∀ (w : World) (h : Heap), YP w h → (K w.params).In h)
    (F : ∀ (w : World) (mg : Str → Option Value) (fa : Addr) (h : Heap), (K w.params).In h → h.Ns mainGlobals mg → mg d.name = some (.ref fa) →
      ∃ fd : FuncData, (∀ (s : Shared) (u : Value), BindsTo s fd ⟨[u], []⟩ [(x, u)]) ∧
        ∀ base : Heap, (K w.params).In base → base.Ns mainGlobals mg → FnOk l.prog w (K w.params) mg base (CX w) k fa fd [x] (sp w))
    (hsp : ∀ (w : World) (H : Hp) (a : Addr) (ns : List Int), ns.length ≤ n → Only H → SqL (K w.params) H a (ns.map V.int) → sp w [.ref a] H (fun v _ => v = .bl true) fun _ _ _ => False)
    (hCX : ∀ (w : World) (H : Hp) (s : Shared) (e : Value) (s' : Shared), CX w [] H s (fun _ _ _ => False) e s' → False) :
    PySem.W.WalkO q loose XP YP l.row.toRowW d [] (fun f vs => PySem.call f vs) := by
  refine Att.attach_call hn hdf fun w s₀ s₁ mg mb fa o pm cd doc a vs ns G Y ho hd hcd hmg hobj hints hlen hg => ?_
  have KX := hY w _ Y
  obtain ⟨fd, hb, hF⟩ := F w mg fa _ KX G.T.g hmg
  exact law_call KX G.T.g G.T.b G.T.builtins G.T.nolimit hg hobj hints (Nat.le_trans hlen hn2) hr hF hb (fun H hO hS => hsp w H a ns hlen hO hS) fun H e s' => hCX w H s₁ e s'
theorem walk_ofK {l : PySem.W.OpenLaw} {n k : Nat} {q : Program} {loose : List Str} {XP : (Str → Option Value) → Heap → Prop} {YP : World → Heap → Prop} {d : DefRec} {K : Params → PySem.W.Frag} {CX : CXT} {sp : PySem.W.Frag → Sp} {x : Str}
    (hn : l.most = some n) (hn2 : n ≤ sizeLine) (hdf : d.params.defaults = []) (hr : Room k callerA)
    (hY : ∀ (w : World) (h : Heap), YP w h → (K w.params).In h)
    (F : ∀ (w : World) (mg : Str → Option Value) (fa : Addr) (h : Heap), (K w.params).In h → h.Ns mainGlobals mg → mg d.name = some (.ref fa) →
      ∃ fd : FuncData, (∀ (s : Shared) (u : Value), BindsTo s fd ⟨[u], []⟩ [(x, u)]) ∧
        ∀ base : Heap, (K w.params).In base → base.Ns mainGlobals mg → FnOk l.prog w (K w.params) mg base CX k fa fd [x] (sp (K w.params)))
    (hsp : ∀ (K : PySem.W.Frag) (H : Hp) (a : Addr) (ns : List Int), ns.length ≤ n → Only H → SqL K H a (ns.map V.int) → sp K [.ref a] H (fun v _ => v = .bl true) fun _ _ _ => False)
    (hCX : ∀ (H : Hp) (s : Shared) (e : Value) (s' : Shared), CX [] H s (fun _ _ _ => False) e s' → False) :
    PySem.W.WalkO q loose XP YP l.row.toRowW d [] (fun f vs => PySem.call f vs) :=
  walk_of (K := K) (CX := fun _ => CX) (sp := fun w => sp (K w.params)) hn hn2 hdf hr hY F (fun w H a ns h1 h2 h3 => hsp (K w.params) H a ns h1 h2 h3) fun _ H s e s' => hCX H s e s'
end L2
/- THE LAST THEOREM (shape; LID, My.* are yours):
   My.Adr: a structure of the addresses that your layer names (classes, functions); My.Txt K t: a structure (Prop) of the equations over K;
   My.txt_mk : {K} {implicit addresses ..} (e1 : nsIn K mainGlobals "law" = some (some (.ref f))) (e2 : K.lookup f = some ⟨oc, od, .func (fnOf "law" "law" params body scope dV kV doc pm an cdv ct), sl⟩) (e3 : codeIn K cdv "law" = true) .. : ∃ t, My.Txt K t
set_option maxRecDepth 100000 in
set_option maxHeartbeats 0 in
theorem PySem.Challenge.cw_LID_holds : PySem.Challenge.rw_LID.Holds := by
  w_on; o_law; k_head; (case hw => w_witness2)
  k_fill
  refine L2.walk_of (l := PySem.Challenge.rw_LID) (n := 63) (k := 40) (x := "script") (CX := fun w => ..) (sp := fun _ => My.sp_law) rfl (by decide) rfl ⟨rfl, by decide, by decide⟩ (fun w h Y => PySem.W.kIn_of Y) ?F ?S ?C
  case F =>
    intro w mg fa h KX G hmg
    have T : ∃ t, My.Txt (L2.KOf KX) t := by
      dsimp only [L2.KOf]                          -- K must stand as «<heap const> w.params» for k_is
      refine' My.txt_mk ?e1 ?e2 ?e3 ..
      (case e1 => PySem.W.k_is)                    -- in the order: a name -> its address -> its object -> its parts
      (case e2 => PySem.W.k_is)
      ..
    obtain ⟨t, T⟩ := T
    have e0 := hmg.symm.trans (PySem.W.mg_of KX G T.law)
    cases e0                                       -- fa is the law's own address
    exact ⟨_, fun s u => .of_eq rfl, fun base kb nb => My.law_fn T kb nb⟩     -- if «.of_eq rfl» comes too early: refine' ⟨_, ?b, fun base kb nb => My.law_fn T kb nb⟩; exact fun s u => .of_eq rfl
  case S => exact fun w H a ns hl hO hS => ..
  case C => exact ..
(the tactic k_is has no namespace: write k_is) -/
namespace L2
open PySem PySem.Spec PyProof.Rows
def defArgs (s : Stmt) : Arguments := match s with
  | .FunctionDef _ a _ _ _ _ _ _ _ _ => a
  | _ => { posonlyargs := [], args := [], vararg := none, kwonlyargs := [], kw_defaults := [], kwarg := none, defaults := [] }
def defBody (s : Stmt) : List Stmt := match s with
  | .FunctionDef _ _ b _ _ _ _ _ _ _ => b
  | _ => []
def defScope (s : Stmt) : Scope := match s with
  | .FunctionDef _ _ _ _ _ _ sc _ _ _ => sc
  | _ => { kind := .function, names := [], isGenerator := false, isCoroutine := false }
abbrev CX0 : CXT := fun _ _ _ _ _ _ => False
abbrev E0 : XK := fun _ _ _ => False
theorem pass0 {X : Cx} : Passes CX0 X E0 := fun _ _ _ _ _ _ _ h => h.elim
structure Fun (K : PySem.W.Frag) (x qual : Str) (st : Stmt) (f : Addr) (fd : FuncData) : Prop where
  ex : ∃ (oc : Value) (od : Option Addr) (kV doc pm : Value) (an : Option Addr) (cdv ct : Value) (osl : Array (Option Value)),
    fd = PySem.W.fnOf x qual (defArgs st) (defBody st) (defScope st) .none kV doc pm an cdv ct ∧ K.lookup f = some ⟨oc, od, .func fd, osl⟩ ∧ PySem.W.codeIn K cdv qual = true
  kp : PySem.W.keepIn K (.ref f) = true
section
variable {P : Program} {w : World} {K : PySem.W.Frag} {mg : Str → Option Value} {base : Heap}
theorem Fun.ok {x qual : Str} {st : Stmt} {f : Addr} {fd : FuncData} {N ps : List Str} {k : Nat} {sp : Sp} (F : Fun K x qual st f fd) (S : FnScope N ps (defScope st)) (len : ∀ vs H Q E, sp vs H Q E → vs.length = ps.length)
    (hbody : ∀ (cdv : Value) (A : Around) (outer : List Env) (s : Shared) (H : Hp) (vs : List V) (Q : VK) (E : XK), Room k (A.deeper (envOfC qual (defScope st) s.heap.objs.size f cdv)) → sp vs H Q E →
      ∃ t, PSs (cxOf CX0 P w K mg base N qual (defScope st) f cdv A outer s H E).nox (defBody st) t ∧ t { nx := fun _ H' => Q .non H', rt := Q } (start N vs) H) : FnOk P w K mg base CX0 (k + 1) f fd ps sp := by
  obtain ⟨oc, od, kV, doc, pm, an, cdv, ct, osl, rfl, lk, hcd⟩ := F.ex
  refine fn_of lk hcd S len fun A outer s H vs Q E hr hsp => ?_
  obtain ⟨t, h, q⟩ := hbody cdv A outer s H vs Q E hr hsp
  exact ⟨t, h.nox, q⟩
theorem Fun.binds {x qual : Str} {st : Stmt} {f : Addr} {fd : FuncData} {ps : List Str} (F : Fun K x qual st f fd)
    (h : ∀ (kV doc pm : Value) (an : Option Addr) (cdv ct : Value) (us : List Value), us.length = ps.length → bindArgs (PySem.W.fnOf x qual (defArgs st) (defBody st) (defScope st) .none kV doc pm an cdv ct) ⟨us, []⟩ = pure (ps.zip us)) : Binds K fd ps [] := by
  obtain ⟨oc, od, kV, doc, pm, an, cdv, ct, osl, rfl, lk, hcd⟩ := F.ex
  exact .all (h kV doc pm an cdv ct)
theorem fun_mk {x qual : Str} {st : Stmt} {f : Addr} {oc : Value} {od an : Option Addr} {osl : Array (Option Value)} {kV doc pm cdv ct : Value} (l : K.lookup f = some ⟨oc, od, .func (PySem.W.fnOf x qual (defArgs st) (defBody st) (defScope st) .none kV doc pm an cdv ct), osl⟩)
    (c : PySem.W.codeIn K cdv qual = true) (k : PySem.W.keepIn K (.ref f) = true) : Fun K x qual st f (PySem.W.fnOf x qual (defArgs st) (defBody st) (defScope st) .none kV doc pm an cdv ct) := ⟨⟨oc, od, kV, doc, pm, an, cdv, ct, osl, rfl, l, c⟩, k⟩
end
section
variable {X : Cx}
theorem pv (i : Nat) {x : Str} {pos : Pos} (hN : X.N[i]? = some x := by rfl) (hv : Vis X.env.scope x := by first | exact Or.inl rfl | exact Or.inr (Or.inl rfl) | exact Or.inr (Or.inr rfl)) (hd : (x == ("__debug__" : Str)) = false := by decide)
    (hcd : (x == ("__classdict__" : Str)) = false := by decide) : PE X (.Name x pos) (tVar i) := pe_var hN hv hd hcd
end
def Same (H H' : Hp) : Prop := ∀ b o, H b = some o → H' b = some o
theorem Same.refl (H : Hp) : Same H H := fun _ _ h => h
theorem Same.trans {H H1 H2 : Hp} (a : Same H H1) (b : Same H1 H2) : Same H H2 := fun c o h => b c o (a c o h)
theorem Same.free {H H' : Hp} (e : Same H H') {l : Addr} (h : H' l = Option.none) : H l = Option.none := by
  cases q : H l with
  | none => rfl
  | some o =>
    rw [e l o q] at h
    cases h
theorem Same.seq {K : PySem.W.Frag} {H H' : Hp} {a : Addr} {xs : List V} (e : Same H H') (h : SqL K H a xs) : SqL K H' a xs := by
  rcases h with (h | ⟨o, h⟩) | h
  · exact .inl (.inl (e _ _ h))
  · exact .inl (.inr ⟨o, e _ _ h⟩)
  · exact .inr h
end L2
set_option maxHeartbeats 4000000
namespace L2
open PySem PySem.Spec PyProof.Rows
def cxComp (X : Cx) (N' : List Str) (scope : Scope) (cl : List (Str × Addr)) (fp : List Addr) (pins : List (Addr × Obj)) (s : Shared) (H : Hp) : Cx where
  prog := X.prog
  w := X.w
  K := X.K
  mg := X.mg
  base := X.base
  A := X.A
  N := N'
  s₀ := s
  H₀ := H
  env := compEnvC scope cl s.heap.objs.size X.env
  outer := X.stack
  stack := X.stack
  ex := fp
  fn := fun _ => false
  calm := X.calm
  pn := X.pn ++ pins
  xe := fun _ _ => False
def clF (env : Env) : List (Str × NameKind) → List (Str × Addr) → List (Str × Addr)
  | [], acc => acc
  | (n, k) :: r, acc => if (k == NameKind.free) = true then clF env r ((n, (env.cells.lookup n).getD 0) :: acc) else clF env r acc
theorem mem_of_lookup {β : Type} : ∀ {l : List (Str × β)} {x : Str} {k : β}, l.lookup x = some k → (x, k) ∈ l
  | [], _, _, h => by simp at h
  | (n, j) :: r, x, k, h => by
    rw [List.lookup_cons] at h
    cases hx : x == n with
    | true =>
      rw [hx] at h
      have e : x = n := eq_of_beq hx
      subst e
      have e2 : j = k := by simpa using h
      subst e2
      exact List.mem_cons_self
    | false =>
      rw [hx] at h
      exact List.mem_cons_of_mem _ (mem_of_lookup (by simpa using h))
theorem clF_sub {env : Env} {x : Str} {c : Addr} : ∀ (l : List (Str × NameKind)) (acc : List (Str × Addr)), (∀ y ∈ l, y.2 = .free → ∃ c, env.cells.lookup y.1 = some c) →
    (clF env l acc).lookup x = some c → acc.lookup x = some c ∨ env.cells.lookup x = some c
  | [], acc, _, h => .inl h
  | (n, k) :: r, acc, hf, h => by
    have hr : ∀ y ∈ r, y.2 = .free → ∃ c, env.cells.lookup y.1 = some c := fun y hy => hf y (List.mem_cons_of_mem _ hy)
    unfold clF at h
    by_cases hk : (k == NameKind.free) = true
    · rw [if_pos hk] at h
      rcases clF_sub r _ hr h with h1 | h1
      · rw [List.lookup_cons] at h1
        cases hx : x == n with
        | true =>
          rw [hx] at h1
          have e : x = n := eq_of_beq hx
          subst e
          have hk' : k = .free := eq_of_beq hk
          obtain ⟨c', hc'⟩ := hf (x, k) List.mem_cons_self hk'
          have hc2 : env.cells.lookup x = some c' := hc'
          rw [hc2] at h1
          right
          rw [hc2]
          simpa using h1
        | false =>
          rw [hx] at h1
          exact .inl (by simpa using h1)
      · exact .inr h1
    · rw [if_neg hk] at h
      exact clF_sub r _ hr h
theorem clF_has {env : Env} {x : Str} : ∀ (l : List (Str × NameKind)) (acc : List (Str × Addr)), ((x, NameKind.free) ∈ l ∨ ∃ c, acc.lookup x = some c) → ∃ c, (clF env l acc).lookup x = some c
  | [], acc, h => by
    rcases h with h | h
    · cases h
    · exact h
  | (n, k) :: r, acc, h => by
    unfold clF
    by_cases hk : (k == NameKind.free) = true
    · rw [if_pos hk]
      refine clF_has r _ ?_
      rcases h with h | ⟨c, h⟩
      · rcases List.mem_cons.mp h with e | e
        · injection e with e1 e2
          right
          refine ⟨(env.cells.lookup n).getD 0, ?_⟩
          rw [List.lookup_cons, e1]
          simp
        · exact .inl e
      · right
        rw [List.lookup_cons]
        cases hx : x == n with
        | true => exact ⟨_, rfl⟩
        | false => exact ⟨c, h⟩
    · rw [if_neg hk]
      refine clF_has r _ ?_
      rcases h with h | h
      · rcases List.mem_cons.mp h with e | e
        · injection e with e1 e2
          rw [← e2] at hk
          exact absurd (by rfl) hk
        · exact .inl e
      · exact .inr h
structure ClOk (X : Cx) (scope : Scope) (cl : List (Str × Addr)) : Prop where
  clos : closureFor scope X.env = pure cl
  sub : ∀ x c, cl.lookup x = some c → X.env.cells.lookup x = some c
  has : ∀ x, ((relabel scope X.env).names.lookup x = some .cell ∨ (relabel scope X.env).names.lookup x = some .free) → ∃ c, cl.lookup x = some c
  kind : scope.kind = .function
  cell : ∀ y ∈ scope.names, y.2 ≠ .cell
  names : ∀ x ∈ scope.names, x.2 = .local → scope.names.lookup x.1 = some .local
theorem closureFor_clF {env : Env} {scope : Scope} (hf : ∀ y ∈ scope.names, y.2 = .free → ∃ c, env.cells.lookup y.1 = some c) : closureFor scope env = pure (clF env scope.names []) := by
  unfold closureFor
  have key : ∀ (l : List (Str × NameKind)) (acc : List (Str × Addr)), (∀ y ∈ l, y.2 = .free → ∃ c, env.cells.lookup y.1 = some c) →
      (forIn l acc (fun (x : Str × NameKind) (r : List (Str × Addr)) => (if (x.2 == NameKind.free) = true then do let a ← cellOf env x.1; pure (ForInStep.yield ((x.1, a) :: r)) else pure (ForInStep.yield r) : Sem (ForInStep (List (Str × Addr)))))) = pure (clF env l acc) := by
    intro l
    induction l with
    | nil => intro acc _; rfl
    | cons p r ih =>
      intro acc hf
      obtain ⟨n, k⟩ := p
      have hr : ∀ y ∈ r, y.2 = .free → ∃ c, env.cells.lookup y.1 = some c := fun y hy => hf y (List.mem_cons_of_mem _ hy)
      rw [List.forIn_cons]
      unfold clF
      by_cases hk : (k == NameKind.free) = true
      · obtain ⟨c, hc⟩ := hf (n, k) List.mem_cons_self (eq_of_beq hk)
        have hc' : env.cells.lookup n = some c := hc
        have hcell : cellOf env n = pure c := by unfold cellOf; rw [hc']
        simp only [hk, if_true, hcell, hc', Option.getD_some]
        show (forIn r ((n, c) :: acc) _ : Sem _) = _
        exact ih _ hr
      · simp only [hk, if_false]
        show (forIn r acc _ : Sem _) = _
        exact ih _ hr
  have := key scope.names [] hf
  simpa using this
theorem clok_mk {X : Cx} {scope : Scope} (ok : X.Ok) (kind : scope.kind = .function) (cell : ∀ y ∈ scope.names, y.2 ≠ .cell)
    (names : ∀ x ∈ scope.names, x.2 = .local → scope.names.lookup x.1 = some .local)
    (free : ∀ y ∈ scope.names, y.2 = .free → X.env.kindOf y.1 = some .cell ∨ X.env.kindOf y.1 = some .free) : ClOk X scope (clF X.env scope.names []) := by
  have hf : ∀ y ∈ scope.names, y.2 = .free → ∃ c, X.env.cells.lookup y.1 = some c := fun y hy e => ok.has y.1 (free y hy e)
  refine ⟨closureFor_clF hf, fun x c h => ?_, fun x h => ?_, kind, cell, names⟩
  · rcases clF_sub scope.names [] hf h with h1 | h1
    · simp at h1
    · exact h1
  · refine clF_has scope.names [] (.inl ?_)
    have hm : ∃ k, (x, k) ∈ (relabel scope X.env).names ∧ (k = .cell ∨ k = .free) := by
      rcases h with h | h
      · exact ⟨_, mem_of_lookup h, .inl rfl⟩
      · exact ⟨_, mem_of_lookup h, .inr rfl⟩
    obtain ⟨k, hm, hk⟩ := hm
    obtain ⟨⟨n, j⟩, hn, e⟩ := List.mem_map.mp hm
    have e' : (if (j == NameKind.free && X.env.scope.kind == .function && X.env.kindOf n == some .cell) = true then (n, NameKind.cell) else (n, j)) = (x, k) := e
    by_cases hc : (j == NameKind.free && X.env.scope.kind == .function && X.env.kindOf n == some .cell) = true
    · rw [if_pos hc] at e'
      injection e' with e1 e2
      have hj : j = .free := by
        rw [Bool.and_eq_true, Bool.and_eq_true] at hc
        exact eq_of_beq hc.1.1
      rw [← e1, ← hj]
      exact hn
    · rw [if_neg hc] at e'
      injection e' with e1 e2
      rcases hk with hk | hk
      · exact absurd (e2.trans hk) (cell (n, j) hn)
      · rw [← e1, ← hk, ← e2]
        exact hn
def FvOk (X : Cx) (scope : Scope) : List (Nat × Str) → Prop
  | [] => True
  | p :: r => (X.N[p.1]? = some p.2 ∧ (X.env.scope.names.lookup p.2 = some .cell ∨ X.env.scope.names.lookup p.2 = some .free) ∧
      ((relabel scope X.env).names.lookup p.2 = some .cell ∨ (relabel scope X.env).names.lookup p.2 = some .free)) ∧ FvOk X scope r
theorem FvOk.mem {X : Cx} {scope : Scope} : ∀ {fv : List (Nat × Str)}, FvOk X scope fv → ∀ p ∈ fv, X.N[p.1]? = some p.2 ∧ (X.env.scope.names.lookup p.2 = some .cell ∨ X.env.scope.names.lookup p.2 = some .free) ∧
      ((relabel scope X.env).names.lookup p.2 = some .cell ∨ (relabel scope X.env).names.lookup p.2 = some .free)
  | [], _, p, hp => by cases hp
  | q :: r, h, p, hp => by
    rcases List.mem_cons.mp hp with e | e
    · rw [e]; exact h.1
    · exact FvOk.mem h.2 p e
def compSt (n : Nat) (fv : List (Nat × Str)) (σ : St) : St := List.replicate n none ++ fv.map fun p => (σ[p.1]?).join
theorem compSt_len (n : Nat) (fv : List (Nat × Str)) (σ : St) : (compSt n fv σ).length = n + fv.length := by
  simp [compSt]
theorem compSt_get {n : Nat} {fv : List (Nat × Str)} {σ : St} {i : Nat} {v : V} (h : (compSt n fv σ)[i]? = some (some v)) : n ≤ i ∧ ∃ p, fv[i - n]? = some p ∧ σ[p.1]? = some (some v) := by
  unfold compSt at h
  by_cases hi : i < n
  · rw [List.getElem?_append_left (by simpa using hi), List.getElem?_replicate, if_pos hi] at h
    cases h
  · have hn : n ≤ i := by omega
    rw [List.getElem?_append_right (by simpa using hn), List.length_replicate, List.getElem?_map] at h
    refine ⟨hn, ?_⟩
    cases e : fv[i - n]? with
    | none => rw [e] at h; cases h
    | some p =>
      rw [e] at h
      refine ⟨p, rfl, ?_⟩
      have h' : (σ[p.1]?).join = some v := Option.some.inj h
      cases e2 : σ[p.1]? with
      | none => rw [e2] at h'; cases h'
      | some o =>
        rw [e2] at h'
        have h2 : o = some v := h'
        rw [h2]
section
variable {X : Cx} {pins : List (Addr × Obj)} {σ : St} {H : Hp} {s : Shared} {fp : List Addr} {scope : Scope} {cl : List (Str × Addr)} {own : List Str} {fv : List (Nat × Str)}
theorem comp_ok (I : Inv X pins σ H s) (ck : ClOk X scope cl) (hf : ∀ b ∈ fp, FpOk X pins H b) (hlt : ∀ b ∈ fp, b < s.heap.objs.size) :
    (cxComp X (own ++ fv.map (·.2)) scope cl fp pins s H).Ok where
  mod := I.ok.mod
  kind := ck.kind
  glob := I.ok.glob
  blt := I.ok.blt
  above := Nat.le_refl _
  inj := fun x y c hx hy => I.ok.inj x y c (ck.sub x c hx) (ck.sub y c hy)
  has := fun x h => ck.has x h
  cab := fun x c h _ => Bool.noConfusion h
  hd := I.ok.hd
  frames := I.ok.frames
  stk := .inl rfl
  exf := fun b hb => ⟨Nat.ne_of_lt (hlt b hb), fun x c h => (hf b hb).2.2.2.2.1 x c (ck.sub x c h)⟩
  bs := I.bs
  bsz := Nat.le_trans I.ok.bsz I.sz
  noex := fun b o e hb => by
    rcases (hf b hb).2.2.2.1 with h | h
    · exact I.ok.noex b o e h
    · exact absurd (Nat.lt_of_lt_of_le (Heap.lt_size e) I.ok.bsz) (Nat.not_lt.mpr h)
  exfs := fun b hb h => by
    rcases List.mem_cons.mp (I.stkSub b h) with e | e
    · exact (hf b hb).2.1 e
    · exact (hf b hb).2.2.1 e
  funs := I.stack
  frf := I.stkFree
theorem comp_start (I : Inv X pins σ H s) (ck : ClOk X scope cl) (fo : FvOk X scope fv) (hf : ∀ b ∈ fp, FpOk X pins H b) (hlt : ∀ b ∈ fp, b < s.heap.objs.size) {h' : Heap} {tk : Nat} {m : Str → Option Value}
    (hns : h'.Ns s.heap.objs.size m) (keep : ∀ b o, s.heap.get? b = some o → h'.get? b = some o) :
    Inv (cxComp X (own ++ fv.map (·.2)) scope cl fp pins s H) [] (compSt own.length fv σ) H { s with heap := h', toks := tk } where
  ok := comp_ok I ck hf hlt
  os := rfl
  bare := I.bare
  base := Un.kept keep
  loc := by
    refine ⟨m, hns, fun i x v hi hv _ => ?_⟩
    obtain ⟨hn, p, hp, hσ⟩ := compSt_get hv
    have hx : x = p.2 := by
      have hi' : (own ++ fv.map (·.2))[i]? = some x := hi
      rw [List.getElem?_append_right hn, List.getElem?_map, hp] at hi'
      exact (Option.some.inj hi').symm
    subst hx
    obtain ⟨hN, hk, hk'⟩ := fo.mem p (List.mem_of_getElem? hp)
    obtain ⟨m0, _, hl⟩ := I.loc
    obtain ⟨u, r, lk⟩ := hl p.1 p.2 v hN hσ (.inr hk)
    refine ⟨u, r, .inr ⟨hk', ?_⟩⟩
    rcases lk with ⟨lk, _⟩ | ⟨_, c, hc, ic⟩
    · have lk' : X.env.scope.names.lookup p.2 = some .local := lk
      rcases hk with hk | hk
      · rw [hk] at lk'; cases lk'
      · rw [hk] at lk'; cases lk'
    · obtain ⟨c', hc'⟩ := ck.has p.2 hk'
      have e := ck.sub _ _ hc'
      rw [hc] at e
      cases e
      obtain ⟨o, e1, e2⟩ := ic
      exact ⟨c, hc', o, keep _ _ e1, e2⟩
  cell := fun x c h => by
    obtain ⟨v, o, e1, e2⟩ := I.cell x c (ck.sub x c h)
    exact ⟨v, o, keep _ _ e1, e2⟩
  free := I.hok.fresh (Nat.le_refl _)
  freeC := fun x c h => I.freeC x c (ck.sub x c h)
  pin := fun p hp => by
    have hp' : p ∈ X.pn ++ pins := by
      have := List.mem_append.mp hp
      rcases this with h | h
      · exact h
      · cases h
    obtain ⟨e, n, nl, nf, nc⟩ := I.pin p hp'
    refine ⟨keep _ _ e, n, Nat.ne_of_lt (Heap.lt_size e), fun h => ?_, nc⟩
    rcases List.mem_cons.mp (I.stkSub _ h) with z | z
    · exact nl z
    · exact nf z
  hok := I.hok.kept keep
  len := by
    rw [compSt_len]
    show _ = (own ++ fv.map (·.2)).length
    simp
theorem comp_exit (I : Inv X pins σ H s) (hf : ∀ b ∈ fp, FpOk X pins H b) {N' : List Str} {σ' : St} {H' : Hp} {s' : Shared}
    (I' : Inv (cxComp X N' scope cl fp pins s H) [] σ' H' s') : Inv X pins σ H' s' :=
  I.call' (ch := fp) I'.os I'.base I'.hok I'.bare fun b hb => ⟨(hf b hb).2.2.2.1, (hf b hb).2.1, (hf b hb).2.2.2.2.1, (hf b hb).2.2.2.2.2⟩
theorem comp_ns (I : Inv X pins σ H s) {N' : List Str} {σ' : St} {H' : Hp} {s' : Shared}
    (I' : Inv (cxComp X N' scope cl fp pins s H) [] σ' H' s') : (∃ m, s'.heap.Ns s.heap.objs.size m) ∧ H' s.heap.objs.size = none := by
  obtain ⟨m, h, _⟩ := I'.loc
  exact ⟨⟨m, h⟩, I'.free⟩
theorem comp_forget (I : Inv X pins σ H s) {pins1 : List (Addr × Obj)} {σ1 : St} {H1 : Hp} {s1 : Shared} (I1 : Inv X pins1 σ1 H1 s1) (hp : ∀ p ∈ pins1, p ∈ pins) (hn : H1 s.heap.objs.size = none) {h' : Heap}
    (sb : Heap.SameBut s.heap.objs.size s1.heap h') : Inv X pins1 σ1 H1 { s1 with heap := h' } := by
  refine I1.turned (t' := s1.toks) (it := s.heap.objs.size) (fun b o hb e => sb.extBut b o hb e) hn (Ne.symm (Nat.ne_of_lt I.lt)) (.inr I.sz) (fun x c h => ?_) fun p hp' => ?_
  · obtain ⟨v, o, e1, _⟩ := I.cell x c h
    exact Nat.ne_of_lt (Heap.lt_size e1)
  · have hp2 : p ∈ X.pn ++ pins := by
      rcases List.mem_append.mp hp' with z | z
      · exact List.mem_append_left _ z
      · exact List.mem_append_right _ (hp p z)
    exact Nat.ne_of_lt (Heap.lt_size (I.pin p hp2).1)
end
section
variable {prog : Program} {w : World} {A : Around} {R : Result → Shared → Prop} {s : Shared}
theorem codeAny_compLoop_go {elt target iter : Expr} {ifs : List Expr} {scope : Scope} {pos : Pos} {it acc : Value} {env : Env} (I : Nat → Shared → Prop)
    (turn : ∀ n s, I n s → wpAny (model prog w) A (pyNext it) (fun r s₁ => match r with
      | none => R (.ok .next) s₁
      | some v => wpAny (model prog w) A (letOwnedTupleGo target it v) (fun _ s₀ => wpAny (model prog w) A (assign target env v) (fun _ s₂ =>
          wpAny (model prog w) A (forIn ifs true fun c r => if r = true then do let ok ← isTrue c env (eval c env); pure (ForInStep.yield ok) else pure (ForInStep.yield r)) (fun ok s₃ =>
            if ok = true then wpAny (model prog w) A (eval elt env) (fun x s₄ =>
              wpAny (model prog w) A (call (.builtin "list.append") [acc, x]) (fun _ s₅ => ∃ m, m < n ∧ I m s₅) (notedBy (model prog w) A env fun e s' => R (.error e) s') s₄) (notedBy (model prog w) A env fun e s' => R (.error e) s') s₃
            else ∃ m, m < n ∧ I m s₃) (notedBy (model prog w) A env fun e s' => R (.error e) s') s₂) (notedBy (model prog w) A env fun e s' => R (.error e) s') s₀) (notedBy (model prog w) A env fun e s' => R (.error e) s') s₁) (notedBy (model prog w) A env fun e s' => R (.error e) s') s)
    (n : Nat) (h : I n s) :
    codeAny (model prog w) A (.compLoop (.ListComp elt [⟨target, iter, ifs, 0⟩] scope pos) 0 it acc env) R s := by
  refine codeAny_loop rfl I (fun n s hI => ?_) n h
  show wpAny _ A ((compTurn (.ListComp elt [⟨target, iter, ifs, 0⟩] scope pos) 0 it acc env).onRaise (fun x => do noteFrame x env; theTreesLotGoes x)) _ _ s
  refine wpAny_noted ?_
  rw [compTurn_list]
  refine wpAny_bind (wpAny_standAt (wpAny_bind (wpAny_mono (turn n s hI) (fun r s₁ h₁ => ?_) fun _ _ h' => h')))
  cases r with
  | none => exact wpAny_pure h₁
  | some v =>
    refine wpAny_bind (wpAny_mono h₁ (fun _ s₀ h₀ => ?_) fun _ _ h' => h')
    refine wpAny_bind (wpAny_mono h₀ (fun _ s₂ h₂ => wpAny_bind (wpAny_mono h₂ (fun ok s₃ h₃ => ?_) fun _ _ h' => h')) fun _ _ h' => h')
    cases ok with
    | false => exact wpAny_pure ⟨rfl, h₃⟩
    | true =>
      exact wpAny_bind (wpAny_bind (wpAny_mono h₃ (fun x s₄ h₄ => wpAny_bind (wpAny_mono h₄ (fun _ s₅ h₅ => wpAny_pure (wpAny_pure ⟨rfl, h₅⟩)) fun _ _ h' => h')) fun _ _ h' => h'))
end
def PTs (X : Cx) (ifs : List Expr) (t : TT) : Prop :=
  ∀ (pins : List (Addr × Obj)) (s : Shared) (σ : St) (H : Hp) (Q : Bool → Hp → Prop), Inv X pins σ H s → t σ H Q →
    wpAny (model X.prog X.w) X.A (forIn ifs true fun c r => if r = true then do let ok ← isTrue c X.env (eval c X.env); pure (ForInStep.yield ok) else pure (ForInStep.yield r)) (TP X pins σ Q) X.xe s
def tTrue : TT := fun _ H Q => Q true H
theorem pts_nil {X : Cx} : PTs X [] tTrue := fun pins s σ H Q I h => wpAny_tests_nil ⟨H, I, h⟩
theorem pts_one {X : Cx} {c : Expr} {t : TT} (h : PT X c t) : PTs X [c] t := fun pins s σ H Q I q => wpAny_tests_one (h pins s σ H Q I q)
def GKeep (n : Nat) (g : TG) : Prop := ∀ v σ H Q, g v σ H Q → g v σ H fun σ' H' => (σ'.length = σ.length ∧ ∀ i, n ≤ i → σ'[i]? = σ[i]?) ∧ Q σ' H'
theorem gk_name {n i : Nat} (h : i < n) : GKeep n (gName i) := fun v σ H Q q => ⟨⟨by simp, fun j hj => by rw [List.getElem?_set_ne (by omega)]⟩, q⟩
theorem gk_two {n i j : Nat} {K : PySem.W.Frag} (h : i < n) (h' : j < n) : GKeep n (gTup K 2 (gCons (gName i) (gCons (gName j) gNil))) := fun v σ H Q q => by
  obtain ⟨a, xs, e, sq, l, v1, r, e1, v2, r2, e2, e3, q⟩ := q
  refine ⟨a, xs, e, sq, l, v1, r, e1, v2, r2, e2, e3, ⟨by simp, fun k hk => ?_⟩, q⟩
  rw [List.getElem?_set_ne (by omega), List.getElem?_set_ne (by omega)]
def CompW (J : It) (g : TG) (tc : TT) (te : TE) (σ0 : St) (D : Addr) (Q : VK) (H : Hp) : Prop :=
  ∃ W : Nat → Nat → List V → Hp → Prop, (∃ m, W 0 m [] H) ∧ ∀ i m ys H, W i m ys H → H D = some (.lst ys) ∧
    ((J.stop i H ∧ Q (.ref D) H) ∨ (J.go i H ∧ ∃ N : List V → Hp → Prop, (∀ ys' H', N ys' H' → ∃ m', m' < m ∧ W (i + 1) m' ys' H') ∧ ∀ x H', J.yld i H x H' → g x σ0 H' fun σ2 H2 => tc σ2 H2 fun b H3 =>
      if b = true then te σ2 H3 fun v H4 => H4 D = some (.lst ys) ∧ ys.length < sizeLine ∧ N (ys ++ [v]) (upd H4 D (.lst (ys ++ [v])))
      else N ys H3))
def tComp (wi : TI) (g : TG) (tc : TT) (te : TE) (n : Nat) (fv : List (Nat × Str)) : TE := fun σ H Q => wi σ H fun J H1 => ∀ D, H1 D = none → CompW J g tc te (compSt n fv σ) D Q (upd H1 D (.lst []))
section
variable {X : Cx} {tg elt iter : Expr} {ifs : List Expr} {scope : Scope} {own : List Str} {fv : List (Nat × Str)} {wi : TI} {g : TG} {tc : TT} {te : TE}
theorem comp_run {pos pos' : Pos} {use : Option (Value → Sem Unit)} {pins : List (Addr × Obj)} {s : Shared} {σ : St} {H : Hp} {Q : Value → Shared → Prop} {R : VK} {cl : List (Str × Addr)} (hc : X.calm = true) (hi : PI X tg iter wi) (I : Inv X pins σ H s)
    (ck : ClOk X scope cl) (fo : FvOk X scope fv) (gk : GKeep own.length g)
    (bg : ∀ fp pins s H, PG (cxComp X (own ++ fv.map (·.2)) scope cl fp pins s H) tg g)
    (bt : ∀ fp pins s H, PTs (cxComp X (own ++ fv.map (·.2)) scope cl fp pins s H) ifs tc)
    (be : ∀ fp pins s H, PE (cxComp X (own ++ fv.map (·.2)) scope cl fp pins s H) elt te)
    (hs : ∀ x, foldedSetIterable iter X.env x = pure x) (h : tComp wi g tc te own.length fv σ H R)
    (fin : ∀ D C H' s', Inv X pins σ H' s' → R (.ref D) H' → (∃ m, s'.heap.Ns C m) → H' C = none →
      (∀ pins1 σ1 H1 s1 h', Inv X pins1 σ1 H1 s1 → (∀ p ∈ pins1, p ∈ pins) → H1 C = none → Heap.SameBut C s1.heap h' → Inv X pins1 σ1 H1 { s1 with heap := h' }) → (C ≠ X.env.locals ∧ C ∉ X.fs) →
      compPost (model X.prog X.w) X.A X.xe use Q (.ref D) C (.ok .next) s') :
    wpAny (model X.prog X.w) X.A (comprehension (.ListComp elt [⟨tg, iter, ifs, 0⟩] scope pos) scope X.env pos' (newList []) false (eval iter X.env) use) Q X.xe s := by
  refine wpAny_comprehension_free (use := use) (g := ⟨tg, iter, ifs, 0⟩) (gs := []) rfl hs ck.clos ck.kind ck.names (thn (hi pins s σ H _ I h) fun v s1 h1 => thn h1 fun itv s2 h2 => ?_)
  obtain ⟨it, fp, tn, J, H2, e, I2, T, st2, f2, RR⟩ := h2
  subst e
  refine wpAny_newObj_type (wpAny_newFunctionEnv ck.cell (by intro y hy; simp at hy) (fun h₁ hns₁ hsb₁ => ?_) ck.kind)
  dsimp only at hns₁ hsb₁ ⊢
  have hD := I2.fresh
  have I3 : Inv X pins σ (upd H2 s2.heap.objs.size (.lst [])) { s2 with heap := s2.heap.push { cls := .type "list", dict := none, data := .seq ([] : List Value).toArray }, toks := s2.toks } := I2.lnew (its := []) .nil (Nat.zero_le _)
  obtain ⟨W, ⟨m0, w0⟩, turn⟩ := RR _ hD
  have olt : ∀ b ∈ fp, b < s2.heap.objs.size := fun b hb => by
    obtain ⟨o, e, _⟩ := T.obj _ _ st2 b hb
    exact Heap.lt_size e
  generalize hDD : s2.heap.objs.size = Da at *
  generalize hH3 : upd H2 Da (.lst []) = H3 at *
  have f3 : ∀ b ∈ fp, FpOk X pins H3 b := fun b hb => ⟨by rw [← hH3, upd_ne (Nat.ne_of_lt (olt b hb))]; exact (f2 b hb).1, (f2 b hb).2⟩
  generalize hs3 : ({ s2 with heap := s2.heap.push { cls := .type "list", dict := none, data := .seq ([] : List Value).toArray }, toks := s2.toks } : Shared) = s3 at *
  have e3 : s2.heap.push { cls := .type "list", dict := none, data := .seq ([] : List Value).toArray } = s3.heap := by rw [← hs3]
  rw [e3] at hns₁ hsb₁ ⊢
  have up2 : ∀ b o, s2.heap.get? b = some o → s3.heap.get? b = some o := fun b o e => by rw [← e3]; exact Heap.get?_push_of_some _ e
  have hlt : ∀ b ∈ fp, b < s3.heap.objs.size := fun b hb => by
    obtain ⟨o, e, _⟩ := T.obj _ _ st2 b hb
    exact Heap.lt_size (up2 _ _ e)
  have keep : ∀ b o, s3.heap.get? b = some o → h₁.get? b = some o := fun b o e => hsb₁.extBut b o (Nat.ne_of_lt (Heap.lt_size e)) (Heap.get?_push_of_some _ e)
  have stat : ∀ {H' : Hp}, (∀ b ∈ fp, H' b = none) → ∀ b ∈ fp, FpOk (cxComp X (own ++ fv.map (·.2)) scope cl fp pins s3 H3) [] H' b := fun {H'} hn b hb => by
    have ok := comp_ok (own := own) (fv := fv) I3 ck f3 hlt
    refine ⟨hn b hb, (ok.exf b hb).1, ok.exfs b hb, .inl hb, (ok.exf b hb).2, fun p hp => ?_⟩
    have hp' : p ∈ X.pn ++ pins := by
      rcases List.mem_append.mp hp with z | z
      · exact z
      · cases z
    exact (f3 b hb).2.2.2.2.2 p hp'
  have loop : ∀ s4 : Shared, Inv (cxComp X (own ++ fv.map (·.2)) scope cl fp pins s3 H3) [] (compSt own.length fv σ) H3 s4 → tn 0 s4.heap →
      codeAny (model X.prog X.w) X.A (.compLoop (.ListComp elt [⟨tg, iter, ifs, 0⟩] scope pos) 0 (.ref it) (.ref Da) (compEnvC scope cl s3.heap.objs.size X.env)) (compPost (model X.prog X.w) X.A X.xe use Q (.ref Da) s3.heap.objs.size) s4 := by
    intro s4 I4 st4
    refine codeAny_compLoop_go (fun n s' => ∃ i ys H', Inv (cxComp X (own ++ fv.map (·.2)) scope cl fp pins s3 H3) [] (compSt own.length fv σ) H' s' ∧ tn i s'.heap ∧ (∀ b ∈ fp, H' b = none) ∧ W i n ys H') ?_ m0
      ⟨0, [], H3, I4, st4, fun b hb => (f3 b hb).1, w0⟩
    rintro n s5 ⟨i, ys, H5, I5, st5, fr5, w5⟩
    obtain ⟨hDl, alt⟩ := turn i n ys H5 w5
    rcases alt with ⟨stop, qn⟩ | ⟨go, NN, hNN, step⟩
    · refine thn (T.done (cxComp X (own ++ fv.map (·.2)) scope cl fp pins s3 H3) rfl rfl rfl hc i [] s5 _ H5 _ I5 (stat fr5) st5 stop) fun r s6 ⟨hr, I6⟩ => ?_
      subst hr
      have hx := comp_ns I3 I6
      refine fin Da _ H5 s6 (comp_exit I3 f3 I6) qn hx.1 hx.2 (fun pins1 σ1 H1 s1 h' J1 hp1 hn1 sb => comp_forget I3 J1 hp1 hn1 sb) ⟨Ne.symm (Nat.ne_of_lt I3.lt), I3.nofs (Nat.le_refl _)⟩
    · refine thn (T.item (cxComp X (own ++ fv.map (·.2)) scope cl fp pins s3 H3) rfl rfl rfl hc i [] s5 _ H5 _ I5 (stat fr5) st5 go) fun r s6 ⟨u, hr, h6⟩ => ?_
      subst hr
      refine thn h6 fun _ s7 ⟨x, H7, I7, r7, y7, st7, fr7⟩ => ?_
      have I7' := I7.pinned (stat fr7) (T.obj _ _ st7)
      refine wpAny_mono (bg fp pins s3 H3 _ s7 _ H7 x u _ I7' r7 (gk _ _ _ _ (step x H7 y7))) (fun _ s8 ⟨σ8, H8, I8, ⟨kl, kk⟩, q8⟩ => ?_) (fun _ _ f => f.elim)
      have weak : ∀ {H9 : Hp} {s9 : Shared}, Inv (cxComp X (own ++ fv.map (·.2)) scope cl fp pins s3 H3) ([] ++ pinsAt fp s7.heap) σ8 H9 s9 →
          Inv (cxComp X (own ++ fv.map (·.2)) scope cl fp pins s3 H3) [] (compSt own.length fv σ) H9 s9 ∧ tn (i + 1) s9.heap ∧ (∀ b ∈ fp, H9 b = none) := fun {H9 s9} I9 => by
        refine ⟨I9.unpinned.weak kl.symm (fun j v hj => ?_), T.keep _ _ _ st7 fun b hb o e => (I9.pin (b, o) (List.mem_append_right _ (List.mem_append_right _ (mem_pinsAt hb e)))).1, fun b hb => ?_⟩
        · rw [kk j (compSt_get hj).1]
          exact hj
        · obtain ⟨o, e, d⟩ := T.obj _ _ st7 b hb
          exact (I9.pin (b, o) (List.mem_append_right _ (List.mem_append_right _ (mem_pinsAt hb e)))).2.1
      refine wpAny_mono (bt fp pins s3 H3 _ s8 σ8 H8 _ I8 q8) (fun b s9 ⟨H9, I9, q9⟩ => ?_) (fun _ _ f => f.elim)
      cases b with
      | false =>
        have q9' : NN ys H9 := q9
        obtain ⟨m', hm, w9⟩ := hNN _ _ q9'
        have wk := weak I9
        rw [if_neg Bool.false_ne_true]
        exact ⟨m', hm, i + 1, ys, H9, wk.1, wk.2.1, wk.2.2, w9⟩
      | true =>
        rw [if_pos rfl]
        rw [if_pos rfl] at q9
        refine wpAny_mono (be fp pins s3 H3 _ s9 σ8 H9 _ I9 q9) (fun y s10 ⟨v10, H10, I10, r10, d10, l10, n10⟩ => ?_) (fun _ _ f => f.elim)
        obtain ⟨m', hm, w10⟩ := hNN _ _ n10
        refine wpAny_mono (mt_append (X := cxComp X (own ++ fv.map (·.2)) scope cl fp pins s3 H3) _ s10 σ8 H10 (.ref Da) [v10] (.ref Da) [y] (fun _ H11 => H11 = upd H10 Da (.lst (ys ++ [v10]))) I10 rfl (.cons r10 .nil) ⟨Da, ys, v10, rfl, rfl, d10, l10, rfl⟩)
          (fun _ s11 ⟨v11, H11, I11, _, e11⟩ => ?_) (fun _ _ f => f.elim)
        subst e11
        have wk := weak I11
        exact ⟨m', hm, i + 1, ys ++ [v10], _, wk.1, wk.2.1, wk.2.2, w10⟩
  have I4 : Inv (cxComp X (own ++ fv.map (·.2)) scope cl fp pins s3 H3) [] (compSt own.length fv σ) H3 { s3 with heap := h₁, toks := s3.toks + ([] : List (Str × Value)).length } := comp_start I3 ck fo f3 hlt hns₁ keep
  have st4 : tn 0 h₁ := T.keep _ _ _ st2 fun b hb o e => keep b o (up2 b o e)
  have hfin : ∀ s4 : Shared, s4 = { s3 with heap := h₁, toks := s3.toks + ([] : List (Str × Value)).length } →
      codeAny (model X.prog X.w) X.A (.compStart (.ListComp elt [⟨tg, iter, ifs, 0⟩] scope pos) 0 (.ref it) (.ref Da) (compEnvC scope cl s3.heap.objs.size X.env)) (compPost (model X.prog X.w) X.A X.xe use Q (.ref Da) s3.heap.objs.size) s4 := by
    rintro s4 rfl
    refine codeAny_compStart_list (loop _ I4 st4) (T.self _ 0 _ _ _ st4 (loop _ I4 st4))
  refine hfin _ ?_
  rw [← hs3]
def freeOk (X : Cx) (scope : Scope) : Bool := scope.names.all fun y => !(y.2 == NameKind.free) || (X.env.scope.names.lookup y.1 == some .cell) || (X.env.scope.names.lookup y.1 == some .free)
theorem freeOk.all {X : Cx} {scope : Scope} (h : freeOk X scope = true) : ∀ y ∈ scope.names, y.2 = .free → X.env.kindOf y.1 = some .cell ∨ X.env.kindOf y.1 = some .free := fun y hy e => by
  have z := List.all_eq_true.mp h y hy
  rw [Bool.or_eq_true, Bool.or_eq_true] at z
  rcases z with (z | z) | z
  · rw [e] at z
    exact absurd z (by decide)
  · exact .inl (eq_of_beq z)
  · exact .inr (eq_of_beq z)
theorem nofree {X : Cx} {scope : Scope} (h : ∀ y ∈ scope.names, y.2 ≠ .free) : freeOk X scope = true := List.all_eq_true.mpr fun y hy => by
  have z : (y.2 == NameKind.free) = false := by simpa using h y hy
  rw [z]
  rfl
theorem pe_comp {pos : Pos} (own : List Str) (fv : List (Nat × Str)) (hc : X.calm = true) (hi : PI X tg iter wi) (fo : FvOk X scope fv) (gk : GKeep own.length g)
    (bg : ∀ fp pins s H, PG (cxComp X (own ++ fv.map (·.2)) scope (clF X.env scope.names []) fp pins s H) tg g)
    (bt : ∀ fp pins s H, PTs (cxComp X (own ++ fv.map (·.2)) scope (clF X.env scope.names []) fp pins s H) ifs tc)
    (be : ∀ fp pins s H, PE (cxComp X (own ++ fv.map (·.2)) scope (clF X.env scope.names []) fp pins s H) elt te)
    (kind : scope.kind = .function) (cell : ∀ y ∈ scope.names, y.2 ≠ .cell) (names : ∀ x ∈ scope.names, x.2 = .local → scope.names.lookup x.1 = some .local)
    (free : freeOk X scope = true)
    (hs : ∀ x, foldedSetIterable iter X.env x = pure x := by intro _; rfl) :
    PE X (.ListComp elt [⟨tg, iter, ifs, 0⟩] scope pos) (tComp wi g tc te own.length fv) := by
  intro pins s σ H Q I h
  rw [eval_ListComp]
  refine comp_run (use := none) hc hi I (clok_mk I.ok kind cell names (freeOk.all free)) fo gk bg bt be hs h fun D C H' s' I' q ⟨m, hm⟩ hn forget _ => ?_
  exact ⟨m, hm, fun h' sb => ⟨.ref D, H', forget pins σ H' s' h' I' (fun _ z => z) hn sb, rfl, q⟩⟩
theorem ps_setComp {pos spos py : Pos} {i : Nat} {y : Str} (own : List Str) (fv : List (Nat × Str)) (hN : X.N.Nodup) (hy : X.N[i]? = some y) (hx : Loc X.env.scope y) (hc : X.calm = true) (hi : PI X tg iter wi) (fo : FvOk X scope fv) (gk : GKeep own.length g)
    (bg : ∀ fp pins s H, PG (cxComp X (own ++ fv.map (·.2)) scope (clF X.env scope.names []) fp pins s H) tg g)
    (bt : ∀ fp pins s H, PTs (cxComp X (own ++ fv.map (·.2)) scope (clF X.env scope.names []) fp pins s H) ifs tc)
    (be : ∀ fp pins s H, PE (cxComp X (own ++ fv.map (·.2)) scope (clF X.env scope.names []) fp pins s H) elt te)
    (kind : scope.kind = .function) (cell : ∀ y ∈ scope.names, y.2 ≠ .cell) (names : ∀ x ∈ scope.names, x.2 = .local → scope.names.lookup x.1 = some .local)
    (free : freeOk X scope = true)
    (hsw : swapsWith (.ListComp elt [⟨tg, iter, ifs, 0⟩] scope pos) (some (.Name y py)) spos.line X.env = pure true)
    (hs : ∀ x, foldedSetIterable iter X.env x = pure x := by intro _; rfl) (hf : X.fn y = true ∨ X.env.scope.names.lookup y = some .local := by first | exact Or.inl rfl | exact Or.inr rfl) :
    PS X (.Assign [.Name y py] (.ListComp elt [⟨tg, iter, ifs, 0⟩] scope pos) spos) (tAsg (tComp wi g tc te own.length fv) (gName i)) := by
  intro pins s σ H D I h
  rw [exec_Assign_Name_used _ _ _ _ hsw]
  refine wpAny_bind (wpAny_standAt (wpAny_bind ?_))
  show wpAny _ X.A (do let _ ← comprehension (.ListComp elt [⟨tg, iter, ifs, 0⟩] scope pos) scope X.env _ (newList []) false (eval iter X.env) (some (assign (.Name y py) X.env))) _ _ s
  refine wpAny_bind (wpAny_mono (comp_run (use := some (assign (.Name y py) X.env)) (Q := fun _ s' => SP X pins D .next s') hc hi I (clok_mk I.ok kind cell names (freeOk.all free)) fo gk bg bt be hs h
    fun Da C H' s' I' q hm hn forget hC => ?_) (fun _ s' hq => wpAny_pure (wpAny_pure hq)) fun _ _ e => e)
  obtain ⟨m, o, es, ep, e, d, r⟩ := hm
  have I2 : Inv X (pins ++ [(C, o)]) σ H' s' := I'.pins_of fun p hp => by
    rcases List.mem_append.mp hp with z | z
    · exact I'.pin p (List.mem_append_right _ z)
    · rw [List.mem_singleton.mp z]
      exact ⟨e, hn, hC.1, hC.2, fun v z => by rw [d] at z; cases z⟩
  refine thn (pg_name hN hy hx hf _ s' σ H' (.ref Da) (.ref Da) _ I2 rfl q) fun _ s'' ⟨σ2, H2, I3, q2⟩ => ?_
  have pc := I3.pin (C, o) (List.mem_append_right _ (List.mem_append_right _ (List.mem_singleton.mpr rfl)))
  exact ⟨m, ⟨o, es, ep, pc.1, d, r⟩, fun h' sb => ⟨σ2, H2, forget pins σ2 H2 s'' h' I3.unpinned (fun _ z => z) pc.2.1 sb, q2⟩⟩
theorem comp_n {J : It} {D : Addr} {n : Nat} {σ0 : St} {H : Hp} {Q : VK} (Pv : Nat → List V → Hp → Prop) (h0 : Pv 0 [] H) (hD : ∀ i ys H, Pv i ys H → H D = some (.lst ys)) (hgo : ∀ i ys H, i < n → Pv i ys H → J.go i H)
    (hs : ∀ i ys H x H', i < n → Pv i ys H → J.yld i H x H' → g x σ0 H' fun σ2 H2 => tc σ2 H2 fun b H3 =>
      if b = true then te σ2 H3 fun v H4 => H4 D = some (.lst ys) ∧ ys.length < sizeLine ∧ Pv (i + 1) (ys ++ [v]) (upd H4 D (.lst (ys ++ [v]))) else Pv (i + 1) ys H3)
    (hd : ∀ ys H, Pv n ys H → J.stop n H ∧ Q (.ref D) H) :
    CompW J g tc te σ0 D Q H := by
  refine ⟨fun i m ys H => m = n - i ∧ i ≤ n ∧ Pv i ys H, ⟨n, by simp, Nat.zero_le _, h0⟩, ?_⟩
  rintro i m ys H ⟨rfl, hi, p⟩
  refine ⟨hD i ys H p, ?_⟩
  by_cases hlt : i < n
  · exact .inr ⟨hgo i ys H hlt p, Pv (i + 1), fun ys' H' z => ⟨n - (i + 1), by omega, rfl, hlt, z⟩, fun x H' y => hs i ys H x H' hlt p y⟩
  · have e : i = n := by omega
    subst e
    exact .inl (hd ys H p)
end
end L2
set_option maxHeartbeats 4000000
namespace L2
open PySem PySem.Spec PyProof.Rows
structure Callee (P : Program) (w : World) (K : PySem.W.Frag) (mg : Str → Option Value) (base : Heap) (k : Nat) (x : Str) (ps : List Str) (sp : Sp) : Prop where
  ex : ∃ (f : Addr) (fd : FuncData), FnOk P w K mg base CX0 k f fd ps sp ∧ mg x = some (.ref f) ∧ PySem.W.keepIn K (.ref f) = true ∧ Binds K fd ps [] ∧ ∃ o, K.lookup f = some o ∧ o.data = .func fd
theorem Callee.mono {P : Program} {w : World} {K : PySem.W.Frag} {mg : Str → Option Value} {base : Heap} {j k : Nat} {x : Str} {ps : List Str} {sp : Sp} (C : Callee P w K mg base j x ps sp) (h : j ≤ k) : Callee P w K mg base k x ps sp := by
  obtain ⟨f, fd, F, r⟩ := C.ex
  exact ⟨f, fd, F.mono h, r⟩
theorem Callee.imp {P : Program} {w : World} {K : PySem.W.Frag} {mg : Str → Option Value} {base : Heap} {k : Nat} {x : Str} {ps : List Str} {sp sp' : Sp} (C : Callee P w K mg base k x ps sp) (h : ∀ vs H Q E, sp' vs H Q E → sp vs H Q E) : Callee P w K mg base k x ps sp' := by
  obtain ⟨f, fd, F, r⟩ := C.ex
  exact ⟨f, fd, F.imp h, r⟩
structure Def (K : PySem.W.Frag) (mg : Str → Option Value) (x : Str) (st : Stmt) (ps : List Str) : Prop where
  ex : ∃ (f : Addr) (fd : FuncData), Fun K x x st f fd ∧ mg x = some (.ref f) ∧ Binds K fd ps [] ∧ ∀ (s : Shared) (us : List Value), us.length = ps.length → BindsTo s fd ⟨us, []⟩ (ps.zip us)
section
variable {P : Program} {w : World} {K : PySem.W.Frag} {mg : Str → Option Value} {base : Heap}
theorem Def.ok {x : Str} {st : Stmt} {N ps : List Str} {k : Nat} {sp : Sp} (D : Def K mg x st ps) (S : FnScope N ps (defScope st)) (len : ∀ vs H Q E, sp vs H Q E → vs.length = ps.length)
    (hbody : ∀ (f : Addr) (cdv : Value) (A : Around) (outer : List Env) (s : Shared) (H : Hp) (vs : List V) (Q : VK) (E : XK), Room k (A.deeper (envOfC x (defScope st) s.heap.objs.size f cdv)) → sp vs H Q E →
      ∃ t, PSs (cxOf CX0 P w K mg base N x (defScope st) f cdv A outer s H E).nox (defBody st) t ∧ t { nx := fun _ H' => Q .non H', rt := Q } (start N vs) H) : Callee P w K mg base (k + 1) x ps sp := by
  obtain ⟨f, fd, F, m, b, _⟩ := D.ex
  obtain ⟨oc, od, kV, doc, pm, an, cdv, ct, osl, _, lk, _⟩ := F.ex
  exact ⟨f, fd, F.ok S len (fun cdv A outer s H vs Q E hr h => hbody f cdv A outer s H vs Q E hr h), m, F.kp, b, _, lk, rfl⟩
theorem law_mk {x : Str} {st : Stmt} {k : Nat} {sp : Sp} {fa : Addr} (D : Def K mg x st ["script"]) (hfa : mg x = some (.ref fa)) (C : ∀ base : Heap, K.In base → base.Ns mainGlobals mg → Callee P w K mg base k x ["script"] sp) :
    ∃ fd : FuncData, (∀ (s : Shared) (u : Value), BindsTo s fd ⟨[u], []⟩ [("script", u)]) ∧ ∀ base : Heap, K.In base → base.Ns mainGlobals mg → FnOk P w K mg base CX0 k fa fd ["script"] sp := by
  obtain ⟨f, fd, F, m, b, bt⟩ := D.ex
  obtain ⟨oc, od, kV, doc, pm, an, cdv, ct, osl, _, lk, _⟩ := F.ex
  refine ⟨fd, fun s u => bt s [u] rfl, fun base kb nb => ?_⟩
  obtain ⟨f', fd', F', m', _, _, o, lk', e⟩ := (C base kb nb).ex
  rw [m] at hfa
  cases hfa
  rw [m] at m'
  cases m'
  rw [lk] at lk'
  cases lk'
  cases e
  exact F'
theorem def_mk {h : Heap} {x : Str} {st : Stmt} {ps : List Str} {f : Addr} {oc : Value} {od an : Option Addr} {osl : Array (Option Value)} {kV doc pm cdv ct : Value} (X : K.In h) (G : h.Ns mainGlobals mg)
    (hb : ∀ (kV doc pm : Value) (an : Option Addr) (cdv ct : Value) (us : List Value), us.length = ps.length → bindArgs (PySem.W.fnOf x x (defArgs st) (defBody st) (defScope st) .none kV doc pm an cdv ct) ⟨us, []⟩ = pure (ps.zip us))
    (a : PySem.W.nsIn K mainGlobals x = some (some (.ref f)))
    (l : K.lookup f = some ⟨oc, od, .func (PySem.W.fnOf x x (defArgs st) (defBody st) (defScope st) .none kV doc pm an cdv ct), osl⟩)
    (c : PySem.W.codeIn K cdv x = true) (k : PySem.W.keepIn K (.ref f) = true) : Def K mg x st ps := by
  have F := fun_mk (st := st) l c k
  exact ⟨f, _, F, PySem.W.mg_of X G a, F.binds hb, fun s us hl => .of_eq (hb _ _ _ _ _ _ us hl)⟩
end
section
variable {X : Cx} {k : Nat} {x : Str} {ps : List Str} {sp : Sp} {p pos : Pos} {e : Expr} {es : List Expr} {t : TA}
theorem pe_callC (C : Callee X.prog X.w X.K X.mg X.base k x ps sp) (hr : Room k X.A) (hg : Gl X x) (ha : PA X (e :: es) t) (hdb : (x == ("__debug__" : Str)) = false := by decide)
    (hst : starEach (e :: es) X.env = (false, eval e X.env) :: starEach es X.env := by rfl) (hpl : (backTo pos (starEach es X.env)).any (·.1) = false := by rfl) : PE X (.Call (.Name x p) (e :: es) [] pos) (tCall sp [] E0 t) := by
  obtain ⟨f, fd, F, m, kp, b, _⟩ := C.ex
  exact pe_call F hr hg m kp b .nil pass0 ha hdb hst hpl
end
section
variable {X : Cx}
inductive BT (H : Hp) : V → String → Prop where
  | non : BT H .non "NoneType"
  | bl (x : Bool) : BT H (.bl x) "bool"
  | int (i : Int) : BT H (.int i) "int"
  | str (x : Str) : BT H (.str x) "str"
  | lst {a : Addr} {xs : List V} (e : H a = some (.lst xs)) : BT H (.ref a) "list"
  | tup {a : Addr} {xs : List V} (e : H a = some (.tup xs)) : BT H (.ref a) "tuple"
  | dct {a : Addr} {kvs : List (Key × V)} (e : H a = some (.dK kvs)) : BT H (.ref a) "dict"
def subT (T U : String) : Bool := T == U || (T == "bool" && U == "int")
end
structure ObK (K : PySem.W.Frag) (C : Addr) : Prop where
  ns : PySem.W.nsIn K mainGlobals "Keeper" = some (some (.ref C))
  cl : Cls K C
  ha : PySem.W.findIn K (.ref C) "__class__" = some (some (.builtin "object.__class__"))
  hn : PySem.W.specialIn K (.builtin "object.__class__") "__get__" = some (some (.builtin "getset_descriptor.__get__"))
  htk : PySem.W.takesIn K (.builtin "object.__class__") = some true
  hm : PySem.W.mroIn K C (.type "object") = some true
  ki : ∀ U ∈ ["bool", "int", "str", "list", "tuple"], PySem.W.kitOne K (.ref C) (.type U) = some false
def objK (ks : List Str) (ds : List PyData) : List (PyData × PyData) := (.none, .none) :: (ks.zip ds).map fun p => (.str p.1, p.2)
mutual
inductive Rep (K : PySem.W.Frag) (H : Hp) : V → PyData → Prop
  | non : Rep K H .non .none
  | bl (b : Bool) : Rep K H (.bl b) (.bool b)
  | int (i : Int) : Rep K H (.int i) (.int i)
  | str (x : Str) : Rep K H (.str x) (.str x)
  | lst {a : Addr} {xs : List V} {ds : List PyData} : SqL K H a xs → RepAll K H xs ds → Rep K H (.ref a) (.list ds)
  | tup {a : Addr} {xs : List V} {ds : List PyData} : SqT K H a xs → RepAll K H xs ds → Rep K H (.ref a) (.tuple ds)
  | dic {a : Addr} {kvs : List (Key × V)} : H a = some (.dK kvs) → Rep K H (.ref a) (.dict [])
  | obj {a C dx : Addr} {fs : List (Str × V)} {ds : List PyData} {kvs : List (PyData × PyData)} : ObK K C → H a = some (.ins C dx fs) → RepAll K H (fs.map (·.2)) ds → kvs = objK (fs.map (·.1)) ds → Rep K H (.ref a) (.dict kvs)
inductive RepAll (K : PySem.W.Frag) (H : Hp) : List V → List PyData → Prop
  | nil : RepAll K H [] []
  | cons {x : V} {d : PyData} {xs : List V} {ds : List PyData} : Rep K H x d → RepAll K H xs ds → RepAll K H (x :: xs) (d :: ds)
end
theorem Same.seqT {K : PySem.W.Frag} {H H' : Hp} {a : Addr} {xs : List V} (e : Same H H') (h : SqT K H a xs) : SqT K H' a xs := by
  rcases h with (h | ⟨o, h⟩) | h
  · exact .inl (.inl (e _ _ h))
  · exact .inl (.inr ⟨o, e _ _ h⟩)
  · exact .inr h
theorem Same.new {H : Hp} {p : Addr} {o : HO} (h : H p = none) : Same H (upd H p o) := fun b u e => by
  rw [upd_ne (ne_of_none e h)]
  exact e
mutual
theorem Rep.mono {K : PySem.W.Frag} {H H' : Hp} (e : Same H H') : ∀ {x : V} {d : PyData}, Rep K H x d → Rep K H' x d
  | _, _, .non => .non
  | _, _, .bl b => .bl b
  | _, _, .int i => .int i
  | _, _, .str x => .str x
  | _, _, .lst q r => .lst (e.seq q) (RepAll.mono e r)
  | _, _, .tup q r => .tup (e.seqT q) (RepAll.mono e r)
  | _, _, .dic q => .dic (e _ _ q)
  | _, _, .obj k q r z => .obj k (e _ _ q) (RepAll.mono e r) z
theorem RepAll.mono {K : PySem.W.Frag} {H H' : Hp} (e : Same H H') : ∀ {xs : List V} {ds : List PyData}, RepAll K H xs ds → RepAll K H' xs ds
  | _, _, .nil => .nil
  | _, _, .cons q r => .cons (Rep.mono e q) (RepAll.mono e r)
end
section
variable {X : Cx} {pins : List (Addr × Obj)} {σ : St} {H : Hp} {s : Shared}
mutual
theorem Rep.reads (I : Inv X pins σ H s) : ∀ {x : V} {d : PyData}, Rep X.K H x d → d.canLay0 = true → ∀ {u : Value}, RelV x u → ∃ as, Reads s.heap u d as
  | _, _, .non, _, _, r => by cases r; exact ⟨_, .none⟩
  | _, _, .bl b, _, _, r => by cases r; exact ⟨_, .bool b⟩
  | _, _, .int i, _, _, r => by obtain ⟨t, rfl⟩ := r; exact ⟨_, .int i t⟩
  | _, _, .str x, _, _, r => by obtain ⟨t, rfl⟩ := r; exact ⟨_, .str x t⟩
  | _, _, .lst q r, h, _, rv => by
    cases rv
    obtain ⟨its, v, pl, _⟩ := I.list q
    obtain ⟨as, z⟩ := RepAll.reads I r h v
    obtain ⟨o, n, e, c, _, d⟩ := pl
    exact ⟨_, reads_list_at e c d (by simpa using z)⟩
  | _, _, .tup q r, h, _, rv => by
    cases rv
    obtain ⟨its, v, pl, _⟩ := I.tuple q
    obtain ⟨as, z⟩ := RepAll.reads I r h v
    obtain ⟨o, e, c, n, d⟩ := pl
    exact ⟨_, reads_tuple_at e c d (by simpa using z)⟩
  | _, _, .dic _, h, _, _ => by cases h
  | _, _, .obj _ _ _ _, h, _, _ => by cases h
theorem RepAll.reads (I : Inv X pins σ H s) : ∀ {xs : List V} {ds : List PyData}, RepAll X.K H xs ds → PyData.canLayAll0 ds = true → ∀ {us : List Value}, Vals xs us → ∃ as, ReadsAll s.heap us ds as
  | _, _, .nil, _, _, .nil => ⟨_, .nil⟩
  | _, _, .cons q r, h, _, .cons v vs => by
    obtain ⟨h1, h2⟩ := Bool.and_eq_true_iff.mp h
    obtain ⟨as, z⟩ := Rep.reads I q h1 v
    obtain ⟨bs, z2⟩ := RepAll.reads I r h2 vs
    exact ⟨_, .cons z z2⟩
end
end
section
variable {X : Cx}
theorem op_eqD (hu : X.A.units + 64 < cLine) : OpR X (compareOp .Eq) (fun x y H Q => ∃ d e, Rep X.K H x d ∧ Rep X.K H y e ∧ SeqAt.shaped d = true ∧ SeqAt.shaped e = true ∧ Q (.bl (PyData.eqv d e)) H) := by
  intro pins s σ H x y v u Q I rx ry h
  obtain ⟨d, e, rd, re, sd, se, q⟩ := h
  obtain ⟨as, ra⟩ := rd.reads I (Bool.and_eq_true_iff.mp sd).1 rx
  obtain ⟨bs, rb⟩ := re.reads I (Bool.and_eq_true_iff.mp se).1 ry
  exact eq_dataH ra rb sd se hu ⟨.bl _, H, I, rfl, q⟩
theorem op_neD (hu : X.A.units + 64 < cLine) : OpR X (compareOp .NotEq) (fun x y H Q => ∃ d e, Rep X.K H x d ∧ Rep X.K H y e ∧ SeqAt.shaped d = true ∧ SeqAt.shaped e = true ∧ Q (.bl (!PyData.eqv d e)) H) := by
  intro pins s σ H x y v u Q I rx ry h
  obtain ⟨d, e, rd, re, sd, se, q⟩ := h
  obtain ⟨as, ra⟩ := rd.reads I (Bool.and_eq_true_iff.mp sd).1 rx
  obtain ⟨bs, rb⟩ := re.reads I (Bool.and_eq_true_iff.mp se).1 ry
  exact ne_dataH ra rb sd se hu ⟨.bl _, H, I, rfl, q⟩
theorem hu64 {A : Around} {k : Nat} (hr : Room k A) : A.units + 64 < cLine := hr.units
end
end L2
namespace L2
open PySem PySem.Spec PyProof.Rows
theorem eqv_pair (a b c d : Int) : PyData.eqv (.tuple [.int a, .int b]) (.tuple [.int c, .int d]) = decide (a = c ∧ b = d) := by
  simp [PyData.eqv, PyData.eqvAll]
  by_cases h1 : a = c <;> by_cases h2 : b = d <;> simp [h1, h2]
end L2
set_option maxHeartbeats 4000000
namespace L2
open PySem PySem.Spec PyProof.Rows
section
variable {X : Cx} {pins : List (Addr × Obj)} {σ : St} {H : Hp} {s : Shared} {h' : Heap}
theorem Inv.turnedL {t' : Nat} {ch : List Addr} (I : Inv X pins σ H s) (hch : ∀ b ∈ ch, FpOk X pins H b) (k : ∀ b u, b ∉ ch → s.heap.get? b = some u → h'.get? b = some u) : Inv X pins σ H { s with heap := h', toks := t' } := by
  have nch : ∀ b u, H b = some u → b ∉ ch := fun b u e z => by rw [(hch b z).1] at e; cases e
  refine I.step (g' := s.gens) (d' := s.drawn) (ch := ch) (fun b hb => ⟨(hch b hb).2.2.2.1, (hch b hb).2.1, (hch b hb).2.2.2.2.1, (hch b hb).2.2.2.2.2⟩) (fun b o _ _ hc e _ => k b o hc e) (fun b o _ _ hc e _ => ⟨o.slots, k b o hc e⟩) (fun _ _ _ _ n => n)
    (fun b o hc e => ⟨o, k b o hc e⟩) (fun _ _ e => e) (fun _ _ _ e => e) (fun b ps e => ⟨#[], by rw [e]; simp⟩) (fun m hm => ?_) (fun b u e => ?_) I.bare
  · obtain ⟨o, es, ep, ho, r⟩ := hm
    exact ⟨o, es, ep, k _ o (fun z => (hch _ z).2.1 rfl) ho, r⟩
  · refine (I.hok b u e).stay (fun c v hc q => k c v ?_ q) (fun _ q => q) fun _ _ q => q
    rcases hc with z | z
    · rw [z]; exact nch b u e
    · exact nch c _ z
theorem Inv.turnedNew {t' : Nat} {ch : List Addr} {a : Addr} {o : HO} (I : Inv X pins σ H s) (hch : ∀ b ∈ ch, FpOk X pins H b) (k : ∀ b u, b ∉ ch → s.heap.get? b = some u → h'.get? b = some u)
    (hp : s.heap.objs.size ≤ a) (new : ObjOk X.prog X.w (upd H a o) h' a o) : Inv X pins σ (upd H a o) { s with heap := h', toks := t' } := by
  have nch : ∀ b u, H b = some u → b ∉ ch := fun b u e z => by rw [(hch b z).1] at e; cases e
  have hn : H a = none := I.hok.fresh hp
  refine I.step (g' := s.gens) (d' := s.drawn) (ch := ch) (fun b hb => ⟨(hch b hb).2.2.2.1, (hch b hb).2.1, (hch b hb).2.2.2.2.1, (hch b hb).2.2.2.2.2⟩) (fun b o _ _ hc e _ => k b o hc e) (fun b o _ _ hc e _ => ⟨o.slots, k b o hc e⟩)
    (fun b u _ e n => by rw [upd_ne (Nat.ne_of_lt (Nat.lt_of_lt_of_le (Heap.lt_size e) hp))]; exact n)
    (fun b o hc e => ⟨o, k b o hc e⟩) (fun b xs e => by rw [upd_ne (ne_of_none e hn)]; exact e) (fun b u xs e => by rw [upd_ne (ne_of_none e hn)]; exact e) (fun b ps e => ⟨#[], by rw [upd_ne (ne_of_none e hn), e]; simp⟩) (fun m hm => ?_) (fun b u e => ?_) I.bare
  · obtain ⟨o, es, ep, ho, r⟩ := hm
    exact ⟨o, es, ep, k _ o (fun z => (hch _ z).2.1 rfl) ho, r⟩
  · by_cases hb : b = a
    · subst hb
      rw [upd_same] at e
      cases e
      exact new
    · rw [upd_ne hb] at e
      refine (I.hok b u e).stay (fun c v hc q => k c v ?_ q) (fun c q => by rw [upd_ne (ne_of_none q hn)]; exact q) fun c xs q => by rw [upd_ne (ne_of_none q hn)]; exact q
      rcases hc with z | z
      · rw [z]; exact nch b u e
      · exact nch c _ z
end
def Ite (K : PySem.W.Frag) (a : Addr) : It :=
  ⟨fun i H => ∃ xs x, SqL K H a xs ∧ xs[i]? = some x, fun i H x H' => ∃ p y, H p = none ∧ x = .ref p ∧ H' = upd H p (.tup [.int i, y]) ∧ ∀ xs, SqL K H a xs → xs[i]? = some y, fun i H => ∃ xs, SqL K H a xs ∧ xs.length ≤ i⟩
theorem turn_enum {P : Program} {w : World} {K : PySem.W.Frag} {elts : List Expr} {k1 : Nat} {pos : Pos} (a e it : Addr) (hei : e ≠ it) :
    Turn P w K (.Tuple elts k1 pos) (Ite K a) [e, it] e (fun i h => (∃ old, IsEnum h e it i old) ∧ h.IsListIter it a i) where
  mem := by simp
  obj := fun i h st b hb => by
    obtain ⟨⟨old, he⟩, hit⟩ := st
    rcases List.mem_cons.mp hb with rfl | hb
    · exact ⟨_, he, fun v z => by
        have z' : Data.fields _ = Data.cell v := z
        cases z'⟩
    · have e2 : b = it := by simpa using hb
      subst e2
      obtain ⟨o, e3, c, d⟩ := hit
      exact ⟨o, e3, fun v z => by rw [d] at z; cases z⟩
  keep := fun i h h' st k => by
    obtain ⟨⟨old, he⟩, hit⟩ := st
    exact ⟨⟨old, k e (by simp) _ he⟩, hit.at fun o q => k it (by simp) o q⟩
  item := by
    intro X hP hw hK hc i pins s σ H E I hf st hg
    subst hP hw hK
    obtain ⟨xs, x, hq, hx⟩ := hg
    obtain ⟨its, rv, p, hz⟩ := I.list hq
    obtain ⟨u, hu, ru⟩ := rv.get hx
    obtain ⟨⟨old, he⟩, hit⟩ := st
    refine wpAny_pyNext_enum_item he hit p.isList (x := u) (by simpa using hu) hei fun h1 ho hit1 hT hsz hk => ?_
    refine ⟨_, rfl, wpAny_letOwnedTupleGo_enum ho fun h2 he2 hs2 => ?_⟩
    have hlt : e < s.heap.objs.size := Heap.lt_size he
    have hilt : it < s.heap.objs.size := by obtain ⟨_, q, _⟩ := hit; exact Heap.lt_size q
    have hT2 : h2.get? s.heap.objs.size = some { cls := .type "tuple", data := .seq #[.int i s.toks, u] } := (hs2.2 _ (Nat.ne_of_gt hlt)).trans hT
    have I2 : Inv X pins σ (upd H s.heap.objs.size (.tup [.int i, x])) { s with heap := h2, toks := s.toks + 1 } := I.turnedNew (ch := [e, it]) hf (fun b o hb q => by
      have n1 : b ≠ e := fun z => hb (by simp [z])
      have n2 : b ≠ it := fun z => hb (by simp [z])
      exact (hs2.2 b n1).trans (hk b o n1 n2 q)) (Nat.le_refl _) ⟨by show 2 ≤ sizeLine; decide, [.int i s.toks, u], .cons ⟨_, rfl⟩ (.cons ru .nil), _, hT2, rfl, _, rfl⟩
    refine ⟨.ref s.heap.objs.size, _, I2, rfl, ⟨_, x, I.hok.fresh (Nat.le_refl _), rfl, rfl, fun ys hy => by rw [I.list_inj hy hq]; exact hx⟩, ⟨⟨_, by simpa using he2⟩, hit1.at fun o q => (hs2.2 it hei.symm).trans q⟩, fun b hb => ?_⟩
    have hb' : b < s.heap.objs.size := by
      rcases List.mem_cons.mp hb with rfl | hb
      · exact hlt
      · have e2 : b = it := by simpa using hb
        rw [e2]; exact hilt
    rw [upd_ne (Nat.ne_of_lt hb')]
    exact (hf b hb).1
  done := by
    intro X hP hw hK hc i pins s σ H E I hf st hg
    subst hP hw hK
    obtain ⟨xs, hq, hx⟩ := hg
    obtain ⟨its, rv, p, hz⟩ := I.list hq
    have hl := rv.length
    obtain ⟨⟨old, he⟩, hit⟩ := st
    refine wpAny_pyNext_enum_end (I.ok.hd hc) he hit p.isList (by simp; omega) fun h1 hk => ⟨rfl, I.turnedL (t' := s.toks) (ch := [e, it]) hf fun b o hb q => hk b o (fun z => hb (by simp [z])) q⟩
  self := fun _ _ _ _ _ st h => by
    obtain ⟨⟨old, he⟩, _⟩ := st
    exact wpAny_pyIter_enum he h
section
variable {X : Cx} {elts : List Expr} {k1 : Nat} {tpos : Pos}
def iEnum (K : PySem.W.Frag) (ta : TA) : TI := fun σ H R => ta σ H fun vs H1 => ∃ a, vs = [.ref a] ∧ (∃ xs, SqL K H1 a xs) ∧ R (Ite K a) H1
theorem pi_enum {a : Expr} {ta : TA} {p pos : Pos} (hg : Gl X "enumerate") (hm : X.mg "enumerate" = none) (ha : PA X [a] ta) (hs : starEach [a] X.env = [(false, eval a X.env)] := by rfl) :
    PI X (.Tuple elts k1 tpos) (.Call (.Name "enumerate" p) [a] [] pos) (iEnum X.K ta) := by
  intro pins s σ H R I h
  refine Call_ (ld_blt I hg hm (by rfl) (PyProof.Rows.callWith_type1 (thn (ha pos pins s σ H _ I h) fun us s1 ⟨vs, H1, I1, r1, q1⟩ => ?_) hs rfl))
  obtain ⟨l, e, ⟨xs, hq⟩, q⟩ := q1
  subst e
  obtain ⟨u, rfl, rx⟩ := vals1 r1
  cases rx
  obtain ⟨its, rv, pl, hz⟩ := I1.list hq
  refine call_enumerate_list pl.isList fun h' he hit hsz hk => ?_
  have I2 : Inv X pins σ H1 { s1 with heap := h', toks := s1.toks } := I1.kept hk
  refine wpAny_pyIter_enum (s := { s1 with heap := h' }) he ?_
  refine ⟨s1.heap.objs.size + 1, [s1.heap.objs.size + 1, s1.heap.objs.size], _, _, H1, rfl, I2, turn_enum l (s1.heap.objs.size + 1) s1.heap.objs.size (Nat.succ_ne_self _), ⟨⟨_, by simpa using he⟩, hit⟩, fun b hb => ?_, q⟩
  simp only [List.mem_cons, List.not_mem_nil, or_false] at hb
  rcases hb with rfl | rfl
  · exact I1.fpOk (Nat.le_succ _) (I1.hok.fresh (Nat.le_succ _))
  · exact I1.fpOk (Nat.le_refl _) (I1.hok.fresh (Nat.le_refl _))
end
end L2
set_option maxHeartbeats 4000000
namespace L2
open PySem PySem.Spec PyProof.Rows
abbrev Thing := Option (Int × Int)
def encD : Thing → PyData
  | none => .tuple []
  | some (k, w) => .tuple [.int k, .int w]
section
variable {α β : Type} {F : α → β → Prop}
end
theorem canLay_T (t : Thing) : (encD t).canLay0 = true ∧ (encD t).depth ≤ 1 := by
  cases t with
  | none => simp [encD, PyData.canLay0, PyData.canLayAll0, PyData.depth, PyData.depthAll]
  | some kw => simp [encD, PyData.canLay0, PyData.canLayAll0, PyData.depth, PyData.depthAll]
theorem shaped_T (t : Thing) : SeqAt.shaped (encD t) = true := by
  have := canLay_T t
  unfold SeqAt.shaped
  rw [this.1, Bool.true_and]
  exact decide_eq_true (Nat.le_trans this.2 (by decide))
theorem canLays_T : ∀ ts : List Thing, PyData.canLayAll0 (ts.map encD) = true ∧ PyData.depthAll (ts.map encD) ≤ 1
  | [] => by simp [PyData.canLayAll0, PyData.depthAll]
  | t :: r => by
    have h1 := canLay_T t
    have h2 := canLays_T r
    simp only [List.map_cons, PyData.canLayAll0, PyData.depthAll, h1.1, h2.1, Bool.and_self, true_and]
    have a1 := h1.2
    have a2 := h2.2
    omega
theorem shaped_L (ts : List Thing) : SeqAt.shaped (.list (ts.map encD)) = true := by
  have := canLays_T ts
  unfold SeqAt.shaped
  simp only [PyData.canLay0, PyData.depth, this.1, Bool.true_and]
  exact decide_eq_true (by omega)
theorem eqv_T (t u : Thing) : PyData.eqv (encD t) (encD u) = decide (t = u) := by
  cases t with
  | none => cases u with
    | none => simp [encD, PyData.eqv, PyData.eqvAll]
    | some kw => simp [encD, PyData.eqv, PyData.eqvAll]
  | some kw => cases u with
    | none => simp [encD, PyData.eqv, PyData.eqvAll]
    | some kw' =>
      obtain ⟨a, b⟩ := kw
      obtain ⟨c, d⟩ := kw'
      show PyData.eqv (.tuple [.int a, .int b]) (.tuple [.int c, .int d]) = _
      rw [eqv_pair]
      by_cases h1 : a = c <;> by_cases h2 : b = d <;> simp [h1, h2]
theorem eqvAll_T : ∀ ts us : List Thing, PyData.eqvAll (ts.map encD) (us.map encD) = decide (ts = us)
  | [], [] => by simp [PyData.eqvAll]
  | [], _ :: _ => by simp [PyData.eqvAll]
  | _ :: _, [] => by simp [PyData.eqvAll]
  | t :: r, u :: q => by
    simp only [List.map_cons, PyData.eqvAll, eqv_T, eqvAll_T r q]
    by_cases h1 : t = u <;> by_cases h2 : r = q <;> simp [h1, h2]
theorem eqv_L (ts us : List Thing) : PyData.eqv (.list (ts.map encD)) (.list (us.map encD)) = decide (ts = us) := by
  simp only [PyData.eqv]
  exact eqvAll_T ts us
section
variable {X : Cx}
end
end L2
set_option maxHeartbeats 4000000
namespace L2
open PySem PySem.Spec PyProof.Rows
abbrev D := PyData
def hid (O : List Addr) (H : Hp) : Hp := fun b => if b ∈ O then none else H b
theorem hid_in {O : List Addr} {H : Hp} {b : Addr} (h : b ∈ O) : hid O H b = none := if_pos h
theorem hid_out {O : List Addr} {H : Hp} {b : Addr} (h : b ∉ O) : hid O H b = H b := if_neg h
theorem hid_some {O : List Addr} {H : Hp} {b : Addr} {o : HO} (h : hid O H b = some o) : b ∉ O ∧ H b = some o := by
  by_cases q : b ∈ O
  · rw [hid_in q] at h; cases h
  · rw [hid_out q] at h; exact ⟨q, h⟩
theorem hid_le {O : List Addr} {H : Hp} : Same (hid O H) H := fun b o h => (hid_some h).2
theorem hid_sub {O O' : List Addr} {H : Hp} (h : ∀ b, b ∈ O' → b ∈ O) : Same (hid O H) (hid O' H) := fun b o e => by
  obtain ⟨n, e⟩ := hid_some e
  rw [hid_out fun z => n (h b z)]
  exact e
theorem hid_same {O : List Addr} {H H' : Hp} (s : Same H H') : Same (hid O H) (hid O H') := fun b o e => by
  obtain ⟨n, e⟩ := hid_some e
  rw [hid_out n]
  exact s b o e
theorem hid_upd {O : List Addr} {H : Hp} {a : Addr} {o : HO} (h : a ∈ O) : hid O (upd H a o) = hid O H := by
  funext b
  by_cases q : b ∈ O
  · rw [hid_in q, hid_in q]
  · rw [hid_out q, hid_out q, upd_ne fun z => q (by rw [z]; exact h)]
theorem hid_nil {H : Hp} : hid [] H = H := by
  funext b
  exact hid_out (by simp)
theorem hid_new {O : List Addr} {H : Hp} {a : Addr} {o : HO} (h : H a = none) : Same (hid O H) (hid (a :: O) (upd H a o)) := fun b u e => by
  obtain ⟨n, e⟩ := hid_some e
  have nb : b ≠ a := ne_of_none e h
  rw [hid_out (by simp [nb, n]), upd_ne nb]
  exact e
def OkO (O : List Addr) (H : Hp) : Prop := ∀ a ∈ O, ∃ o, H a = some o
theorem OkO.mono {O : List Addr} {H H' : Hp} (k : OkO O H) (s : Same H H') : OkO O H' := fun a h => by
  obtain ⟨o, e⟩ := k a h
  exact ⟨o, s _ _ e⟩
theorem OkO.fresh {O : List Addr} {H : Hp} {a : Addr} (k : OkO O H) (h : H a = none) : a ∉ O := fun z => by
  obtain ⟨o, e⟩ := k a z
  rw [e] at h
  cases h
theorem OkO.nil {H : Hp} : OkO [] H := fun a h => by cases h
abbrev PEnv := List (Option D)
abbrev PF := PEnv → Option D
abbrev PB := PEnv → Option Bool
abbrev PAs := PEnv → Option (List D)
def EnvR (K : PySem.W.Frag) (H : Hp) (σ : St) (ρ : PEnv) : Prop := ∀ (i : Nat) (d : D), ρ[i]? = some (some d) → ∃ v, σ[i]? = some (some v) ∧ Rep K H v d
theorem EnvR.mono {K : PySem.W.Frag} {H H' : Hp} {σ : St} {ρ : PEnv} (e : EnvR K H σ ρ) (s : Same H H') : EnvR K H' σ ρ := fun i d h => by
  obtain ⟨v, e1, r⟩ := e i d h
  exact ⟨v, e1, r.mono s⟩
def PuE (K : PySem.W.Frag) (te : TE) (f : PF) : Prop := ∀ (O : List Addr) (σ : St) (H : Hp) (ρ : PEnv) (d : D) (Q : VK), OkO O H → EnvR K (hid O H) σ ρ → f ρ = some d →
  (∀ v H', Same H H' → Rep K (hid O H') v d → Q v H') → te σ H Q
def PuT (K : PySem.W.Frag) (te : TT) (f : PB) : Prop := ∀ (O : List Addr) (σ : St) (H : Hp) (ρ : PEnv) (b : Bool) (Q : Bool → Hp → Prop), OkO O H → EnvR K (hid O H) σ ρ → f ρ = some b →
  (∀ H', Same H H' → Q b H') → te σ H Q
def PuA (K : PySem.W.Frag) (te : TA) (f : PAs) : Prop := ∀ (O : List Addr) (σ : St) (H : Hp) (ρ : PEnv) (ds : List D) (Q : List V → Hp → Prop), OkO O H → EnvR K (hid O H) σ ρ → f ρ = some ds →
  (∀ vs H', Same H H' → RepAll K (hid O H') vs ds → Q vs H') → te σ H Q
def PuL (K : PySem.W.Frag) (te : TE) (f : PAs) : Prop := ∀ (O : List Addr) (σ : St) (H : Hp) (ρ : PEnv) (ds : List D) (Q : VK), OkO O H → EnvR K (hid O H) σ ρ → f ρ = some ds →
  (∀ a xs H', Same H H' → H a = none → H' a = some (.lst xs) → RepAll K (hid (a :: O) H') xs ds → Q (.ref a) H') → te σ H Q
def PuR (K : PySem.W.Frag) (r : R2) (g : D → D → Option D) : Prop := ∀ (O : List Addr) (H : Hp) (x y : V) (a b d : D) (Q : VK), OkO O H → Rep K (hid O H) x a → Rep K (hid O H) y b → g a b = some d →
  (∀ v H', Same H H' → Rep K (hid O H') v d → Q v H') → r x y H Q
def PuC (K : PySem.W.Frag) (r : List V → Hp → VK → Prop) (g : List D → Option D) : Prop := ∀ (O : List Addr) (H : Hp) (vs : List V) (ds : List D) (d : D) (Q : VK), OkO O H → RepAll K (hid O H) vs ds → g ds = some d →
  (∀ v H', Same H H' → Rep K (hid O H') v d → Q v H') → r vs H Q
def PuCL (K : PySem.W.Frag) (r : List V → Hp → VK → Prop) (g : List D → Option (List D)) : Prop := ∀ (O : List Addr) (H : Hp) (vs : List V) (ds es : List D) (Q : VK), OkO O H → RepAll K (hid O H) vs ds → g ds = some es →
  (∀ a xs H', Same H H' → H a = none → H' a = some (.lst xs) → RepAll K (hid (a :: O) H') xs es → Q (.ref a) H') → r vs H Q
structure JE (X : Cx) (K : PySem.W.Frag) (e : Expr) (te : TE) (f : PF) : Prop where
  pe : PE X e te
  pu : PuE K te f
structure JT (X : Cx) (K : PySem.W.Frag) (e : Expr) (te : TT) (f : PB) : Prop where
  pe : PT X e te
  pu : PuT K te f
structure JW (X : Cx) (K : PySem.W.Frag) (e : Expr) (te : TT) (f : PB) : Prop where
  pe : PW X e te
  pu : PuT K te f
structure JA (X : Cx) (K : PySem.W.Frag) (es : List Expr) (te : TA) (f : PAs) : Prop where
  pe : PA X es te
  pu : PuA K te f
structure JL (X : Cx) (K : PySem.W.Frag) (e : Expr) (te : TE) (f : PAs) : Prop where
  pe : PE X e te
  pu : PuL K te f
structure OpJ (X : Cx) (K : PySem.W.Frag) (f : Value → Value → Sem Value) (r : R2) (g : D → D → Option D) : Prop where
  pe : OpR X f r
  pu : PuR K r g
structure CallJ (X : Cx) (K : PySem.W.Frag) (f : Value) (r : List V → Hp → VK → Prop) (g : List D → Option D) : Prop where
  pe : CallR X f r
  pu : PuC K r g
structure CallJL (X : Cx) (K : PySem.W.Frag) (f : Value) (r : List V → Hp → VK → Prop) (g : List D → Option (List D)) : Prop where
  pe : CallR X f r
  pu : PuCL K r g
def pVar (i : Nat) : PF := fun ρ => (ρ[i]?).join
def pCon (d : D) : PF := fun _ => some d
def pOp (g : D → D → Option D) (a b : PF) : PF := fun ρ => (a ρ).bind fun x => (b ρ).bind fun y => g x y
def pUn (g : D → Option D) (a : PF) : PF := fun ρ => (a ρ).bind g
def asB : D → Option Bool
  | .bool b => some b
  | _ => none
def pTest (a : PF) : PB := fun ρ => (a ρ).bind asB
def pNotT (a : PB) : PB := fun ρ => (a ρ).map (!·)
def pAndT (a b : PB) : PB := fun ρ => (a ρ).bind fun x => if x = true then b ρ else some false
def pOrT (a b : PB) : PB := fun ρ => (a ρ).bind fun x => if x = true then some true else b ρ
def pTrue : PB := fun _ => some true
def pAnd (a b : PF) : PF := fun ρ => (a ρ).bind fun x => (asB x).bind fun k => if k = true then b ρ else some (.bool false)
def pOr (a b : PF) : PF := fun ρ => (a ρ).bind fun x => (asB x).bind fun k => if k = true then some (.bool true) else b ρ
def pNot (a : PF) : PF := fun ρ => (a ρ).bind fun x => (asB x).bind fun k => some (.bool (!k))
def pIf (c : PB) (a b : PF) : PF := fun ρ => (c ρ).bind fun x => if x = true then a ρ else b ρ
def pChain (g g' : D → D → Option D) (a b c : PF) : PF := fun ρ => (a ρ).bind fun x => (b ρ).bind fun y => (g x y).bind fun z => (asB z).bind fun k => if k = true then (c ρ).bind fun u => g' y u else some (.bool false)
def pNil : PAs := fun _ => some []
def pCons (a : PF) (r : PAs) : PAs := fun ρ => (a ρ).bind fun x => (r ρ).bind fun xs => some (x :: xs)
def fits (n : Nat) : Bool := decide (n < sizeLine)
def pTup (r : PAs) : PF := fun ρ => (r ρ).bind fun xs => if fits xs.length = true then some (.tuple xs) else none
def pLst (r : PAs) : PAs := fun ρ => (r ρ).bind fun xs => if fits xs.length = true then some xs else none
def pOfL (r : PAs) : PF := fun ρ => (r ρ).map PyData.list
def pCall (f : List D → Option D) (r : PAs) : PF := fun ρ => (r ρ).bind f
def pCallL (f : List D → Option (List D)) (r : PAs) : PAs := fun ρ => (r ρ).bind f
def dI (g : Int → Int → D) : D → D → Option D
  | .int a, .int b => some (g a b)
  | _, _ => none
def dIC (C : Int → Int → Bool) (g : Int → Int → D) : D → D → Option D
  | .int a, .int b => if C a b = true then some (g a b) else none
  | _, _ => none
def dAdd := dI fun i j => .int (i + j)
def dSub := dI fun i j => .int (i - j)
def small (i : Int) : Bool := decide (-(2 ^ 64) < i ∧ i < 2 ^ 64)
def dMul := dIC (fun i j => small i || small j) fun i j => .int (i * j)
def Wide (j : Int) : Prop := 0 < j ∧ j.natAbs.log2 < 9000
instance (j : Int) : Decidable (Wide j) := instDecidableAnd
def dDiv := dIC (fun _ j => decide ((0 < j ∧ j < 1073741824) ∨ Wide j)) fun i j => .int (i / j)
theorem wide_of {j : Int} (h : (0 < j ∧ j < 1073741824) ∨ Wide j) : Wide j := by
  rcases h with ⟨h0, h1⟩ | h
  · refine ⟨h0, ?_⟩
    have h30 : j.natAbs.log2 < 30 := (Nat.log2_lt (by omega)).mpr (by omega)
    omega
  · exact h
def dMod := dIC (fun _ j => decide (0 < j)) fun i j => .int (i % j)
def dPow := dIC (fun i j => decide (0 ≤ j ∧ j ≤ 1000000 ∧ i.natAbs < 2 ^ 64)) fun i j => .int (i ^ j.toNat)
def dLt := dI fun i j => .bool (decide (i < j))
def dLe := dI fun i j => .bool (decide (i ≤ j))
def dGt := dI fun i j => .bool (decide (j < i))
def dGe := dI fun i j => .bool (decide (j ≤ i))
def dEq (a b : D) : Option D := if SeqAt.shaped a = true ∧ SeqAt.shaped b = true then some (.bool (PyData.eqv a b)) else none
def dNe (a b : D) : Option D := if SeqAt.shaped a = true ∧ SeqAt.shaped b = true then some (.bool (!PyData.eqv a b)) else none
def isNon : D → Bool
  | .none => true
  | _ => false
def dIsN (a b : D) : Option D := if isNon b = true then some (.bool (isNon a)) else none
def dNotN (a b : D) : Option D := if isNon b = true then some (.bool (!isNon a)) else none
def dIx : D → D → Option D
  | .list ds, .int i => atI ds i
  | .tuple ds, .int i => atI ds i
  | .str z, .int i => if z.length ≤ sizeLine then (atI z.cps.toList i).map fun c => .str ⟨#[c]⟩ else none
  | _, _ => none
def dNeg : D → Option D
  | .int i => some (.int (-i))
  | _ => none
section
variable {X : Cx} {K : PySem.W.Frag}
theorem Rep.hid {O : List Addr} {H H' : Hp} {v : V} {d : D} (r : Rep K (hid O H) v d) (s : Same H H') : Rep K (L2.hid O H') v d := r.mono (hid_same s)
theorem RepAll.hid {O : List Addr} {H H' : Hp} {v : List V} {d : List D} (r : RepAll K (L2.hid O H) v d) (s : Same H H') : RepAll K (L2.hid O H') v d := r.mono (hid_same s)
theorem EnvR.hid {O : List Addr} {H H' : Hp} {σ : St} {ρ : PEnv} (r : EnvR K (L2.hid O H) σ ρ) (s : Same H H') : EnvR K (L2.hid O H') σ ρ := r.mono (hid_same s)
theorem JL.je {e : Expr} {te : TE} {f : PAs} (j : JL X K e te f) : JE X K e te (pOfL f) := ⟨j.pe, by
  intro O σ H ρ d Q ok er hf q
  have hf' : (f ρ).map PyData.list = some d := hf
  cases e1 : f ρ with
  | none => rw [e1] at hf'; cases hf'
  | some ds =>
    rw [e1] at hf'
    cases hf'
    refine j.pu O σ H ρ ds Q ok er e1 fun a xs H' s hn ha r => q _ H' s ?_
    have na : a ∉ O := ok.fresh hn
    exact .lst (SqL.of (by rw [hid_out na]; exact ha)) (r.mono (hid_sub fun b hb => List.mem_cons_of_mem _ hb))⟩
theorem je_var (i : Nat) {x : Str} {pos : Pos} (hN : X.N[i]? = some x := by rfl) (hv : Vis X.env.scope x := by first | exact Or.inl rfl | exact Or.inr (Or.inl rfl) | exact Or.inr (Or.inr rfl)) (hd : (x == ("__debug__" : Str)) = false := by decide)
    (hcd : (x == ("__classdict__" : Str)) = false := by decide) : JE X K (.Name x pos) (tVar i) (pVar i) := ⟨pe_var hN hv hd hcd, by
  intro O σ H ρ d Q ok er hf q
  have hf' : (ρ[i]?).join = some d := hf
  have h2 : ρ[i]? = some (some d) := by
    cases e1 : ρ[i]? with
    | none => rw [e1] at hf'; cases hf'
    | some o => rw [e1] at hf'; rw [show o = some d from hf']
  obtain ⟨v, e2, r⟩ := er i d h2
  exact ⟨v, e2, q v H (Same.refl H) r⟩⟩
theorem pu_con {v : V} {d : D} (h : ∀ H, Rep K H v d) : PuE K (tC v) (pCon d) := by
  intro O σ H ρ d' Q ok er hf q
  cases hf
  exact q v H (Same.refl H) (h _)
theorem je_int {i j pos} : JE X K (.Constant (.int i) j pos) (tC (.int i)) (pCon (.int i)) := ⟨pe_int, pu_con fun _ => .int i⟩
theorem je_bl {b j pos} : JE X K (.Constant (.bool b) j pos) (tC (.bl b)) (pCon (.bool b)) := ⟨pe_bl, pu_con fun _ => .bl b⟩
theorem je_non {j pos} : JE X K (.Constant .none j pos) (tC .non) (pCon .none) := ⟨pe_non, pu_con fun _ => .non⟩
section
variable {a b c : Expr} {ta tb tc : TE} {fa fb fc : PF} {pos : Pos} {r r' : R2} {g g' : D → D → Option D}
theorem bind_some' {α β : Type} {o : Option α} {f : α → Option β} {b : β} (h : o.bind f = some b) : ∃ x, o = some x ∧ f x = some b := by
  cases o with
  | none => cases h
  | some x => exact ⟨x, rfl, h⟩
theorem pu_op (hr : PuR K r g) (ha : PuE K ta fa) (hb : PuE K tb fb) : PuE K (tOp r ta tb) (pOp g fa fb) := by
  intro O σ H ρ d Q ok er hf q
  obtain ⟨x, e1, hf⟩ := bind_some' hf
  obtain ⟨y, e2, hf⟩ := bind_some' hf
  refine ha O σ H ρ x _ ok er e1 fun v H1 s1 r1 => ?_
  refine hb O σ H1 ρ y _ (ok.mono s1) (er.hid s1) e2 fun u H2 s2 r2 => ?_
  exact hr O H2 v u x y d Q ((ok.mono s1).mono s2) (r1.hid s2) r2 hf fun w H3 s3 r3 => q w H3 ((s1.trans s2).trans s3) r3
theorem je_op {op : Operator} (ho : OpJ X K (binaryOp op) r g) (ha : JE X K a ta fa) (hb : JE X K b tb fb) : JE X K (.BinOp a op b pos) (tOp r ta tb) (pOp g fa fb) :=
  ⟨pe_op ho.pe ha.pe hb.pe, pu_op ho.pu ha.pu hb.pu⟩
theorem je_cmp {op : CmpOp} (ho : OpJ X K (compareOp op) r g) (ha : JE X K a ta fa) (hb : JE X K b tb fb) (hm : behindInMarks op b = false) : JE X K (.Compare a [op] [b] pos) (tOp r ta tb) (pOp g fa fb) :=
  ⟨pe_cmpR ho.pe ha.pe hb.pe hm, pu_op ho.pu ha.pu hb.pu⟩
theorem rep_bool {H : Hp} {v : V} {d : D} {b : Bool} (r : Rep K H v d) (h : asB d = some b) : v = .bl b := by
  cases r with
  | bl k => cases h; rfl
  | _ => cases h
theorem pu_test {t : TE} {f : PF} (h : PuE K t f) : PuT K (tTest t) (pTest f) := by
  intro O σ H ρ k Q ok er hf q
  obtain ⟨x, e1, hf⟩ := bind_some' hf
  exact h O σ H ρ x _ ok er e1 fun v H1 s1 r1 => ⟨k, rep_bool r1 hf, q H1 s1⟩
theorem jt_cmp {op : CmpOp} (ho : OpJ X K (compareOp op) r g) (ha : JE X K a ta fa) (hb : JE X K b tb fb) (hm : behindInMarks op b = false) : JT X K (.Compare a [op] [b] pos) (tTest (tOp r ta tb)) (pTest (pOp g fa fb)) :=
  ⟨pt_cmpR ho.pe ha.pe hb.pe hm, pu_test (pu_op ho.pu ha.pu hb.pu)⟩
theorem pu_chain (hr : PuR K r g) (hr' : PuR K r' g') (ha : PuE K ta fa) (hb : PuE K tb fb) (hc : PuE K tc fc) : PuE K (tChain r r' ta tb tc) (pChain g g' fa fb fc) := by
  intro O σ H ρ d Q ok er hf q
  obtain ⟨x, e1, hf⟩ := bind_some' hf
  obtain ⟨y, e2, hf⟩ := bind_some' hf
  obtain ⟨z, e3, hf⟩ := bind_some' hf
  obtain ⟨k, e4, hf⟩ := bind_some' hf
  refine ha O σ H ρ x _ ok er e1 fun v H1 s1 r1 => ?_
  refine hb O σ H1 ρ y _ (ok.mono s1) (er.hid s1) e2 fun u H2 s2 r2 => ?_
  have ok2 := (ok.mono s1).mono s2
  refine hr O H2 v u x y z _ ok2 (r1.hid s2) r2 e3 fun w H3 s3 r3 => ⟨k, rep_bool r3 e4, ?_⟩
  have s13 := (s1.trans s2).trans s3
  cases k with
  | true =>
    rw [if_pos rfl] at hf ⊢
    obtain ⟨u', e5, hf⟩ := bind_some' hf
    refine hc O σ H3 ρ u' _ (ok2.mono s3) (er.hid s13) e5 fun w' H4 s4 r4 => ?_
    exact hr' O H4 u w' y u' d Q ((ok2.mono s3).mono s4) (r2.hid (s3.trans s4)) r4 hf fun w2 H5 s5 r5 => q w2 H5 ((s13.trans s4).trans s5) r5
  | false =>
    rw [if_neg Bool.false_ne_true] at hf ⊢
    cases hf
    exact q _ H3 s13 (.bl false)
theorem jt_chain {op op' : CmpOp} (ho : OpJ X K (compareOp op) r g) (ho' : OpJ X K (compareOp op') r' g') (ha : JE X K a ta fa) (hb : JE X K b tb fb) (hc : JE X K c tc fc)
    (hm : lastMarks [op, op'] [b, c] = false := by with_unfolding_all rfl) : JT X K (.Compare a [op, op'] [b, c] pos) (tTest (tChain r r' ta tb tc)) (pTest (pChain g g' fa fb fc)) := ⟨pt_chain ho.pe ho'.pe ha.pe hb.pe hc.pe hm, pu_test (pu_chain ho.pu ho'.pu ha.pu hb.pu hc.pu)⟩
end
theorem pur_I0 {g : Int → Int → V} {g' : Int → Int → D} (h : ∀ i j H, Rep K H (g i j) (g' i j)) : PuR K (rI0 g) (dI g') := by
  intro O H x y a b d Q ok ra rb hg q
  cases ra with
  | int i =>
    cases rb with
    | int j =>
      cases hg
      exact ⟨i, j, rfl, rfl, q _ H (Same.refl H) (h i j _)⟩
    | _ => cases hg
  | _ => cases rb <;> cases hg
theorem pur_I {C : Int → Int → Prop} {C' : Int → Int → Bool} {g : Int → Int → V} {g' : Int → Int → D} (hC : ∀ i j, C' i j = true → C i j) (h : ∀ i j H, Rep K H (g i j) (g' i j)) : PuR K (rI C g) (dIC C' g') := by
  intro O H x y a b d Q ok ra rb hg q
  cases ra with
  | int i =>
    cases rb with
    | int j =>
      have hg' : (if C' i j = true then some (g' i j) else none) = some d := hg
      by_cases hc : C' i j = true
      · rw [if_pos hc] at hg'
        cases hg'
        exact ⟨i, j, rfl, rfl, hC i j hc, q _ H (Same.refl H) (h i j _)⟩
      · rw [if_neg hc] at hg'
        cases hg'
    | _ => cases hg
  | _ => cases rb <;> cases hg
theorem jo_add : OpJ X K (binaryOp .Add) (rI0 fun i j => .int (i + j)) dAdd := ⟨op_add, pur_I0 fun i j H => .int _⟩
theorem jo_sub : OpJ X K (binaryOp .Sub) (rI0 fun i j => .int (i - j)) dSub := ⟨op_sub, pur_I0 fun i j H => .int _⟩
theorem jo_mul : OpJ X K (binaryOp .Mult) (rI CMul fun i j => .int (i * j)) dMul := ⟨op_mul, pur_I (fun i j h => by
  rw [Bool.or_eq_true] at h
  exact h.imp (fun z => of_decide_eq_true z) (fun z => of_decide_eq_true z)) fun i j H => .int _⟩
theorem op_fdivW : OpR X (binaryOp .FloorDiv) (rI (fun _ j => Wide j) fun i j => .int (i / j)) := opI fun i j _ _ _ _ _ hc q => by
  have h1 : (0 : Int) < j := hc.1
  exact floordiv_int (by omega) (by rw [Int.fdiv_eq_ediv_of_nonneg i (by omega)]; exact q) (.inl (PyProof.noPylong_of_log2 hc.2))
theorem jo_div : OpJ X K (binaryOp .FloorDiv) (rI (fun _ j => Wide j) fun i j => .int (i / j)) dDiv := ⟨op_fdivW, pur_I (fun i j h => wide_of (of_decide_eq_true h)) fun i j H => .int _⟩
theorem jo_mod : OpJ X K (binaryOp .Mod) (rI (fun _ j => 0 < j) fun i j => .int (i % j)) dMod := ⟨op_mod, pur_I (fun i j h => of_decide_eq_true h) fun i j H => .int _⟩
theorem jo_pow : OpJ X K (binaryOp .Pow) (rI CPow fun i j => .int (i ^ j.toNat)) dPow := ⟨op_pow, pur_I (fun i j h => (of_decide_eq_true h : 0 ≤ j ∧ j ≤ 1000000 ∧ i.natAbs < 2 ^ 64)) fun i j H => .int _⟩
theorem jo_lt : OpJ X K (compareOp .Lt) (rI0 fun i j => .bl (decide (i < j))) dLt := ⟨op_lt, pur_I0 fun i j H => .bl _⟩
theorem jo_le : OpJ X K (compareOp .LtE) (rI0 fun i j => .bl (decide (i ≤ j))) dLe := ⟨op_le, pur_I0 fun i j H => .bl _⟩
theorem jo_gt : OpJ X K (compareOp .Gt) (rI0 fun i j => .bl (decide (j < i))) dGt := ⟨op_gt, pur_I0 fun i j H => .bl _⟩
theorem jo_ge : OpJ X K (compareOp .GtE) (rI0 fun i j => .bl (decide (j ≤ i))) dGe := ⟨op_ge, pur_I0 fun i j H => .bl _⟩
def rEqD (K : PySem.W.Frag) : R2 := fun x y H Q => ∃ d e, Rep K H x d ∧ Rep K H y e ∧ SeqAt.shaped d = true ∧ SeqAt.shaped e = true ∧ Q (.bl (PyData.eqv d e)) H
def rNeD (K : PySem.W.Frag) : R2 := fun x y H Q => ∃ d e, Rep K H x d ∧ Rep K H y e ∧ SeqAt.shaped d = true ∧ SeqAt.shaped e = true ∧ Q (.bl (!PyData.eqv d e)) H
theorem jo_eq (hK : X.K = K) (hu : X.A.units + 64 < cLine) : OpJ X K (compareOp .Eq) (rEqD K) dEq := ⟨by subst hK; exact op_eqD hu, by
  intro O H x y a b d Q ok ra rb hg q
  unfold dEq at hg
  by_cases hc : SeqAt.shaped a = true ∧ SeqAt.shaped b = true
  · rw [if_pos hc] at hg
    cases hg
    exact ⟨a, b, ra.mono hid_le, rb.mono hid_le, hc.1, hc.2, q _ H (Same.refl H) (.bl _)⟩
  · rw [if_neg hc] at hg
    cases hg⟩
theorem jo_ne (hK : X.K = K) (hu : X.A.units + 64 < cLine) : OpJ X K (compareOp .NotEq) (rNeD K) dNe := ⟨by subst hK; exact op_neD hu, by
  intro O H x y a b d Q ok ra rb hg q
  unfold dNe at hg
  by_cases hc : SeqAt.shaped a = true ∧ SeqAt.shaped b = true
  · rw [if_pos hc] at hg
    cases hg
    exact ⟨a, b, ra.mono hid_le, rb.mono hid_le, hc.1, hc.2, q _ H (Same.refl H) (.bl _)⟩
  · rw [if_neg hc] at hg
    cases hg⟩
theorem isNon_rep {H : Hp} {v : V} {d : D} (r : Rep K H v d) : decide (v = .non) = isNon d := by
  cases r <;> simp [isNon]
theorem jo_isN : OpJ X K (compareOp .Is) (fun x y H Q => y = .non ∧ Q (.bl (decide (x = .non))) H) dIsN := ⟨op_isN, by
  intro O H x y a b d Q ok ra rb hg q
  unfold dIsN at hg
  by_cases hc : isNon b = true
  · rw [if_pos hc] at hg
    cases hg
    have e : y = .non := of_decide_eq_true (by rw [isNon_rep rb]; exact hc)
    refine ⟨e, q _ H (Same.refl H) ?_⟩
    rw [isNon_rep ra]
    exact .bl _
  · rw [if_neg hc] at hg
    cases hg⟩
theorem jo_notN : OpJ X K (compareOp .IsNot) (fun x y H Q => y = .non ∧ Q (.bl (!decide (x = .non))) H) dNotN := ⟨op_notN, by
  intro O H x y a b d Q ok ra rb hg q
  unfold dNotN at hg
  by_cases hc : isNon b = true
  · rw [if_pos hc] at hg
    cases hg
    have e : y = .non := of_decide_eq_true (by rw [isNon_rep rb]; exact hc)
    refine ⟨e, q _ H (Same.refl H) ?_⟩
    rw [isNon_rep ra]
    exact .bl _
  · rw [if_neg hc] at hg
    cases hg⟩
theorem RepAll.length {H : Hp} : ∀ {xs : List V} {ds : List D}, RepAll K H xs ds → xs.length = ds.length
  | _, _, .nil => rfl
  | _, _, .cons _ r => by simp [RepAll.length r]
theorem RepAll.get {H : Hp} : ∀ {xs : List V} {ds : List D} {i : Nat} {d : D}, RepAll K H xs ds → ds[i]? = some d → ∃ x, xs[i]? = some x ∧ Rep K H x d
  | _, _, _, _, .nil, e => by simp at e
  | _, _, 0, _, .cons r _, e => by simp at e; subst e; exact ⟨_, rfl, r⟩
  | _, _, i + 1, d, .cons _ t, e => by
    obtain ⟨u, h1, h2⟩ := RepAll.get (i := i) (d := d) t (by simpa using e)
    exact ⟨u, by simpa using h1, h2⟩
theorem RepAll.getX {H : Hp} : ∀ {xs : List V} {ds : List D} {i : Nat} {x : V}, RepAll K H xs ds → xs[i]? = some x → ∃ d, ds[i]? = some d ∧ Rep K H x d
  | _, _, _, _, .nil, e => by simp at e
  | _, _, 0, _, .cons r _, e => by simp at e; subst e; exact ⟨_, rfl, r⟩
  | _, _, i + 1, d, .cons _ t, e => by
    obtain ⟨u, h1, h2⟩ := RepAll.getX (i := i) (x := d) t (by simpa using e)
    exact ⟨u, by simpa using h1, h2⟩
theorem RepAll.atI {H : Hp} {xs : List V} {ds : List D} {i : Int} {d : D} (r : RepAll K H xs ds) (h : L2.atI ds i = some d) : ∃ x, L2.atI xs i = some x ∧ Rep K H x d := by
  unfold L2.atI at h ⊢
  obtain ⟨j, e1, e2⟩ := bind_some' h
  obtain ⟨x, e3, rx⟩ := r.get e2
  exact ⟨x, by rw [r.length, e1]; exact e3, rx⟩
theorem RepAll.set {H : Hp} {x : V} {d : D} (q : Rep K H x d) : ∀ {xs : List V} {ds : List D} (i : Nat), RepAll K H xs ds → RepAll K H (xs.set i x) (ds.set i d)
  | _, _, _, .nil => .nil
  | _, _, 0, .cons _ t => .cons q t
  | _, _, i + 1, .cons p t => .cons p (RepAll.set q i t)
theorem RepAll.append {H : Hp} : ∀ {xs ys : List V} {ds es : List D}, RepAll K H xs ds → RepAll K H ys es → RepAll K H (xs ++ ys) (ds ++ es)
  | _, _, _, _, .nil, s => s
  | _, _, _, _, .cons r t, s => .cons r (RepAll.append t s)
theorem RepAll.take {H : Hp} : ∀ {xs : List V} {ds : List D} (n : Nat), RepAll K H xs ds → RepAll K H (xs.take n) (ds.take n)
  | _, _, 0, _ => .nil
  | _, _, _ + 1, .nil => .nil
  | _, _, n + 1, .cons r t => .cons r (RepAll.take n t)
theorem RepAll.drop {H : Hp} : ∀ {xs : List V} {ds : List D} (n : Nat), RepAll K H xs ds → RepAll K H (xs.drop n) (ds.drop n)
  | _, _, 0, r => r
  | _, _, _ + 1, .nil => .nil
  | _, _, n + 1, .cons _ t => RepAll.drop n t
theorem pur_ix : PuR K (rIx K) dIx := by
  intro O H x y a b d Q ok ra rb hg q
  cases rb with
  | int j =>
    cases ra with
    | lst h r =>
      obtain ⟨v, e, rv⟩ := r.atI hg
      exact .inl ⟨_, _, j, v, rfl, rfl, hid_le.seq h, e, q _ H (Same.refl H) rv⟩
    | tup h r =>
      obtain ⟨v, e, rv⟩ := r.atI hg
      exact .inr (.inl ⟨_, _, j, v, rfl, rfl, hid_le.seqT h, e, q _ H (Same.refl H) rv⟩)
    | str z =>
      have hg' : (if z.length ≤ sizeLine then (L2.atI z.cps.toList j).map fun c => PyData.str ⟨#[c]⟩ else none) = some d := hg
      by_cases hz : z.length ≤ sizeLine
      · rw [if_pos hz] at hg'
        cases e : L2.atI z.cps.toList j with
        | none => rw [e] at hg'; cases hg'
        | some c =>
          rw [e] at hg'
          cases hg'
          exact .inr (.inr ⟨z, j, c, rfl, rfl, hz, e, q _ H (Same.refl H) (.str _)⟩)
      · rw [if_neg hz] at hg'
        cases hg'
    | _ => cases hg
  | _ => cases ra <;> cases hg
theorem je_ix {a b : Expr} {ta tb : TE} {fa fb : PF} {pos : Pos} (hK : X.K = K) (ha : JE X K a ta fa) (hb : JE X K b tb fb) (hs : PlainIx b) : JE X K (.Subscript a b pos) (tOp (rIx K) ta tb) (pOp dIx fa fb) :=
  ⟨by subst hK; exact pe_ix ix_seq ha.pe hb.pe hs, pu_op pur_ix ha.pu hb.pu⟩
theorem je_neg {a : Expr} {ta : TE} {fa : PF} {pos : Pos} (ha : JE X K a ta fa) : JE X K (.UnaryOp .USub a pos) (tUn (rU fun i => .int (-i)) ta) (pUn dNeg fa) := ⟨pe_un un_neg ha.pe, by
  intro O σ H ρ d Q ok er hf q
  obtain ⟨x, e1, hf⟩ := bind_some' hf
  refine ha.pu O σ H ρ x _ ok er e1 fun v H1 s1 r1 => ?_
  cases r1 with
  | int i => cases hf; exact ⟨i, rfl, q _ H1 s1 (.int _)⟩
  | _ => cases hf⟩
section
variable {a b c e : Expr} {rest : List Expr} {ta tb tc t : TE} {tA tB' : TT} {fa fb fc f : PF} {pa pb : PB} {pos : Pos}
theorem jt_val (h : JE X K e t f) (he : ∀ whole, isTrue e X.env whole = (do let v ← whole; standAt e.pos; holding [v] (truthy v)) := by intro _; rfl) : JT X K e (tB t) (pTest f) := ⟨pt_val h.pe he, pu_test h.pu⟩
theorem jt_not (ha : JT X K a tA pa) : JT X K (.UnaryOp .Not a pos) (tNot tA) (pNotT pa) := ⟨pt_not ha.pe, by
  intro O σ H ρ k Q ok er hf q
  cases e1 : pa ρ with
  | none => rw [show pNotT pa ρ = (pa ρ).map (!·) from rfl, e1] at hf; cases hf
  | some x =>
    rw [show pNotT pa ρ = (pa ρ).map (!·) from rfl, e1] at hf
    cases hf
    exact ha.pu O σ H ρ x _ ok er e1 fun H1 s1 => q H1 s1⟩
theorem jw_and1 (ha : JT X K a tA pa) : JW X K (.BoolOp .And [a] pos) tA pa := ⟨pw_and1 ha.pe, ha.pu⟩
theorem jw_or1 (ha : JT X K a tA pa) : JW X K (.BoolOp .Or [a] pos) tA pa := ⟨pw_or1 ha.pe, ha.pu⟩
theorem jw_and (ha : JT X K a tA pa) (hb : JW X K (.BoolOp .And (b :: rest) pos) tB' pb) : JW X K (.BoolOp .And (a :: b :: rest) pos) (tAnd tA tB') (pAndT pa pb) := ⟨pw_and ha.pe hb.pe, by
  intro O σ H ρ k Q ok er hf q
  obtain ⟨x, e1, hf⟩ := bind_some' hf
  refine ha.pu O σ H ρ x _ ok er e1 fun H1 s1 => ?_
  cases x with
  | true =>
    rw [if_pos rfl] at hf ⊢
    exact hb.pu O σ H1 ρ k Q (ok.mono s1) (er.hid s1) hf fun H2 s2 => q H2 (s1.trans s2)
  | false =>
    rw [if_neg Bool.false_ne_true] at hf ⊢
    cases hf
    exact q H1 s1⟩
theorem jw_or (ha : JT X K a tA pa) (hb : JW X K (.BoolOp .Or (b :: rest) pos) tB' pb) : JW X K (.BoolOp .Or (a :: b :: rest) pos) (tOr tA tB') (pOrT pa pb) := ⟨pw_or ha.pe hb.pe, by
  intro O σ H ρ k Q ok er hf q
  obtain ⟨x, e1, hf⟩ := bind_some' hf
  refine ha.pu O σ H ρ x _ ok er e1 fun H1 s1 => ?_
  cases x with
  | true =>
    rw [if_pos rfl] at hf ⊢
    cases hf
    exact q H1 s1
  | false =>
    rw [if_neg Bool.false_ne_true] at hf ⊢
    exact hb.pu O σ H1 ρ k Q (ok.mono s1) (er.hid s1) hf fun H2 s2 => q H2 (s1.trans s2)⟩
theorem JW.jt (h : JW X K e tA pa) : JT X K e tA pa := ⟨h.pe.pt, h.pu⟩
theorem je_one {op} (h : JE X K a ta fa) : JE X K (.BoolOp op [a] pos) ta fa := ⟨pe_one h.pe, h.pu⟩
theorem je_or (ha : JE X K a ta fa) (hb : JE X K (.BoolOp .Or (b :: rest) pos) tb fb) : JE X K (.BoolOp .Or (a :: b :: rest) pos) (tOrV ta tb) (pOr fa fb) := ⟨pe_or ha.pe hb.pe, by
  intro O σ H ρ k Q ok er hf q
  obtain ⟨x, e1, hf⟩ := bind_some' hf
  obtain ⟨z, e2, hf⟩ := bind_some' hf
  refine ha.pu O σ H ρ x _ ok er e1 fun v H1 s1 r1 => ⟨z, rep_bool r1 e2, ?_⟩
  cases z with
  | true =>
    rw [if_pos rfl] at hf ⊢
    cases hf
    exact q _ H1 s1 (.bl _)
  | false =>
    rw [if_neg Bool.false_ne_true] at hf ⊢
    exact hb.pu O σ H1 ρ k Q (ok.mono s1) (er.hid s1) hf fun v H2 s2 => q v H2 (s1.trans s2)⟩
end
section
variable {e : Expr} {es : List Expr} {te : TE} {t : TA} {f : PF} {r : PAs} {pos : Pos}
theorem ja_nil : JA X K [] tNil pNil := ⟨pa_nil, by
  intro O σ H ρ ds Q ok er hf q
  cases hf
  exact q [] H (Same.refl H) .nil⟩
theorem ja_cons (ha : JE X K e te f) (hr : JA X K es t r) (hs : starEach (e :: es) X.env = (false, eval e X.env) :: starEach es X.env := by rfl) : JA X K (e :: es) (tCons te t) (pCons f r) := ⟨pa_cons ha.pe hr.pe hs, by
  intro O σ H ρ ds Q ok er hf q
  obtain ⟨x, e1, hf⟩ := bind_some' hf
  obtain ⟨xs, e2, hf⟩ := bind_some' hf
  cases hf
  refine ha.pu O σ H ρ x _ ok er e1 fun v H1 s1 r1 => ?_
  exact hr.pu O σ H1 ρ xs _ (ok.mono s1) (er.hid s1) e2 fun vs H2 s2 r2 => q (v :: vs) H2 (s1.trans s2) (.cons (r1.hid s2) r2)⟩
theorem fits_le {n : Nat} (h : fits n = true) : n ≤ sizeLine := Nat.le_of_lt (of_decide_eq_true h)
theorem je_tup {x1} (h : JA X K es t r) : JE X K (.Tuple es x1 pos) (tTup t) (pTup r) := ⟨pe_tup h.pe, by
  intro O σ H ρ d Q ok er hf q
  obtain ⟨xs, e1, hf⟩ := bind_some' hf
  by_cases hc : fits xs.length = true
  · rw [if_pos hc] at hf
    cases hf
    refine h.pu O σ H ρ xs _ ok er e1 fun vs H1 s1 r1 => ⟨by rw [r1.length]; exact fits_le hc, fun p hp => ?_⟩
    have sn : Same H1 (upd H1 p (.tup vs)) := Same.new hp
    refine q _ _ (s1.trans sn) (.tup (SqT.of ?_) (r1.hid sn))
    rw [hid_out ((ok.mono s1).fresh hp)]
    exact upd_same
  · rw [if_neg hc] at hf
    cases hf⟩
theorem jl_lst (h : JA X K es t r) : JL X K (.List es pos) (tLst t) (pLst r) := ⟨pe_lst h.pe, by
  intro O σ H ρ d Q ok er hf q
  obtain ⟨xs, e1, hf⟩ := bind_some' hf
  by_cases hc : fits xs.length = true
  · rw [if_pos hc] at hf
    obtain rfl : xs = d := Option.some.inj hf
    refine h.pu O σ H ρ xs _ ok er e1 fun vs H1 s1 r1 => ⟨by rw [r1.length]; exact fits_le hc, fun p hp => ?_⟩
    have sn : Same H1 (upd H1 p (.lst vs)) := Same.new hp
    refine q p vs _ (s1.trans sn) (s1.free hp) upd_same ?_
    exact r1.mono (hid_new hp)
  · rw [if_neg hc] at hf
    cases hf⟩
end
end
def spF (K : PySem.W.Frag) (n : Nat) (f : List D → Option D) : Sp := fun vs H Q _ => vs.length = n ∧ ∃ (O : List Addr) (ds : List D) (d : D), OkO O H ∧ RepAll K (hid O H) vs ds ∧ f ds = some d ∧ ∀ v H', Same H H' → Rep K (hid O H') v d → Q v H'
def spL (K : PySem.W.Frag) (n : Nat) (f : List D → Option (List D)) : Sp := fun vs H Q _ => vs.length = n ∧ ∃ (O : List Addr) (ds es : List D), OkO O H ∧ RepAll K (hid O H) vs ds ∧ f ds = some es ∧
  ∀ a xs H', Same H H' → H a = none → H' a = some (.lst xs) → RepAll K (hid (a :: O) H') xs es → Q (.ref a) H'
def Takes (n : Nat) {α : Type} (f : List D → Option α) : Prop := ∀ ds a, f ds = some a → ds.length = n
section
variable {X : Cx} {K : PySem.W.Frag} {k n : Nat} {x : Str} {ps : List Str} {p pos : Pos} {e : Expr} {es : List Expr} {t : TA} {r : PAs}
theorem je_callC {f : List D → Option D} (C : Callee X.prog X.w X.K X.mg X.base k x ps (spF K n f)) (hf : Takes n f) (hr : Room k X.A) (hg : Gl X x) (ha : JA X K (e :: es) t r) (hdb : (x == ("__debug__" : Str)) = false := by decide)
    (hst : starEach (e :: es) X.env = (false, eval e X.env) :: starEach es X.env := by rfl) (hpl : (backTo pos (starEach es X.env)).any (·.1) = false := by rfl) : JE X K (.Call (.Name x p) (e :: es) [] pos) (tCall (spF K n f) [] E0 t) (pCall f r) := ⟨pe_callC C hr hg ha.pe hdb hst hpl, by
  intro O σ H ρ d Q ok er h q
  obtain ⟨ds, e1, h⟩ := bind_some' h
  refine ha.pu O σ H ρ ds _ ok er e1 fun vs H1 s1 r1 => ?_
  rw [List.append_nil]
  exact ⟨by rw [r1.length]; exact hf ds d h, O, ds, d, ok.mono s1, r1, h, fun v H' s' rv => q v H' (s1.trans s') rv⟩⟩
theorem jl_callC {f : List D → Option (List D)} (C : Callee X.prog X.w X.K X.mg X.base k x ps (spL K n f)) (hf : Takes n f) (hr : Room k X.A) (hg : Gl X x) (ha : JA X K (e :: es) t r) (hdb : (x == ("__debug__" : Str)) = false := by decide)
    (hst : starEach (e :: es) X.env = (false, eval e X.env) :: starEach es X.env := by rfl) (hpl : (backTo pos (starEach es X.env)).any (·.1) = false := by rfl) : JL X K (.Call (.Name x p) (e :: es) [] pos) (tCall (spL K n f) [] E0 t) (pCallL f r) := ⟨pe_callC C hr hg ha.pe hdb hst hpl, by
  intro O σ H ρ d Q ok er h q
  obtain ⟨ds, e1, h⟩ := bind_some' h
  refine ha.pu O σ H ρ ds _ ok er e1 fun vs H1 s1 r1 => ?_
  rw [List.append_nil]
  exact ⟨by rw [r1.length]; exact hf ds d h, O, ds, d, ok.mono s1, r1, h, fun a xs H' s' hn ha' rv => q a xs H' (s1.trans s') (s1.free hn) ha' rv⟩⟩
theorem je_callB {id : String} {rc : List V → Hp → VK → Prop} {g : List D → Option D} (hc : CallJ X K (.builtin id) rc g) (hg : Gl X x) (hm : X.mg x = none) (hv : bootBuiltins x = some (.builtin id)) (ha : JA X K (e :: es) t r) (hn : x ≠ "__name__" := by decide) (hdb : (x == ("__debug__" : Str)) = false := by decide)
    (he : starEach (e :: es) X.env = (false, eval e X.env) :: starEach es X.env := by rfl) (hpl : (backTo pos (starEach es X.env)).any (·.1) = false := by rfl) : JE X K (.Call (.Name x p) (e :: es) [] pos) (tCB rc t) (pCall g r) := ⟨pe_callB hc.pe hg hm hv ha.pe hn hdb he hpl, by
  intro O σ H ρ d Q ok er h q
  obtain ⟨ds, e1, h⟩ := bind_some' h
  exact ha.pu O σ H ρ ds _ ok er e1 fun vs H1 s1 r1 => hc.pu O H1 vs ds d Q (ok.mono s1) r1 h fun v H' s' rv => q v H' (s1.trans s') rv⟩
theorem je_callTy {T : String} {rc : List V → Hp → VK → Prop} {g : List D → Option D} (hc : CallJ X K (.type T) rc g) (hg : Gl X x) (hm : X.mg x = none) (hv : bootBuiltins x = some (.type T)) (ha : JA X K (e :: es) t r) (hn : x ≠ "__name__" := by decide) (hdb : (x == ("__debug__" : Str)) = false := by decide)
    (he : starEach (e :: es) X.env = (false, eval e X.env) :: starEach es X.env := by rfl) (hpl : (backTo pos (starEach es X.env)).any (·.1) = false := by rfl) : JE X K (.Call (.Name x p) (e :: es) [] pos) (tCB rc t) (pCall g r) := ⟨pe_callTy hc.pe hg hm hv ha.pe hn hdb he hpl, by
  intro O σ H ρ d Q ok er h q
  obtain ⟨ds, e1, h⟩ := bind_some' h
  exact ha.pu O σ H ρ ds _ ok er e1 fun vs H1 s1 r1 => hc.pu O H1 vs ds d Q (ok.mono s1) r1 h fun v H' s' rv => q v H' (s1.trans s') rv⟩
theorem jl_callTy {T : String} {rc : List V → Hp → VK → Prop} {g : List D → Option (List D)} (hc : CallJL X K (.type T) rc g) (hg : Gl X x) (hm : X.mg x = none) (hv : bootBuiltins x = some (.type T)) (ha : JA X K (e :: es) t r) (hn : x ≠ "__name__" := by decide) (hdb : (x == ("__debug__" : Str)) = false := by decide)
    (he : starEach (e :: es) X.env = (false, eval e X.env) :: starEach es X.env := by rfl) (hpl : (backTo pos (starEach es X.env)).any (·.1) = false := by rfl) : JL X K (.Call (.Name x p) (e :: es) [] pos) (tCB rc t) (pCallL g r) := ⟨pe_callTy hc.pe hg hm hv ha.pe hn hdb he hpl, by
  intro O σ H ρ d Q ok er h q
  obtain ⟨ds, e1, h⟩ := bind_some' h
  exact ha.pu O σ H ρ ds _ ok er e1 fun vs H1 s1 r1 => hc.pu O H1 vs ds d Q (ok.mono s1) r1 h fun a xs H' s' hn2 ha2 rv => q a xs H' (s1.trans s') (s1.free hn2) ha2 rv⟩
end
end L2
set_option maxHeartbeats 4000000
namespace L2
open PySem PySem.Spec PyProof.Rows
section
variable {X : Cx} {K : PySem.W.Frag}
def gLen : List D → Option D
  | [.list ds] => some (.int ds.length)
  | [.tuple ds] => some (.int ds.length)
  | _ => none
def gList : List D → Option (List D)
  | [.list ds] => some ds
  | [.tuple ds] => some ds
  | _ => none
def gMax : List D → Option D
  | [.int i, .int j] => some (.int (max i j))
  | _ => none
def gMin : List D → Option D
  | [.int i, .int j] => some (.int (min i j))
  | _ => none
def gInt : List D → Option D
  | [.int i] => some (.int i)
  | [.bool b] => some (.int (if b then 1 else 0))
  | _ => none
theorem rep1 {H : Hp} {vs : List V} {d : D} (r : RepAll K H vs [d]) : ∃ v, vs = [v] ∧ Rep K H v d := by
  cases r with
  | cons a b => cases b; exact ⟨_, rfl, a⟩
theorem rep2 {H : Hp} {vs : List V} {d e : D} (r : RepAll K H vs [d, e]) : ∃ v u, vs = [v, u] ∧ Rep K H v d ∧ Rep K H u e := by
  cases r with
  | cons a b =>
    obtain ⟨u, e1, r2⟩ := rep1 b
    exact ⟨_, u, by rw [e1], a, r2⟩
theorem jc_len (hK : X.K = K) : CallJ X K (.builtin "len") (fun xs H Q => ∃ p ys, xs = [.ref p] ∧ (SqL K H p ys ∨ SqT K H p ys) ∧ Q (.int ys.length) H) gLen := ⟨by subst hK; exact call_len_seq, by
  intro O H vs ds d Q ok r hg q
  unfold gLen at hg
  split at hg
  · rename_i es
    cases hg
    obtain ⟨v, rfl, r1⟩ := rep1 r
    cases r1 with
    | lst h r' => exact ⟨_, _, rfl, .inl (hid_le.seq h), by rw [r'.length]; exact q _ H (Same.refl H) (.int _)⟩
  · rename_i es
    cases hg
    obtain ⟨v, rfl, r1⟩ := rep1 r
    cases r1 with
    | tup h r' => exact ⟨_, _, rfl, .inr (hid_le.seqT h), by rw [r'.length]; exact q _ H (Same.refl H) (.int _)⟩
  · cases hg⟩
theorem jc_list (hK : X.K = K) : CallJL X K (.type "list") (fun xs H Q => ∃ p ys, xs = [.ref p] ∧ (SqL K H p ys ∨ SqT K H p ys) ∧ ∀ l, H l = none → Q (.ref l) (upd H l (.lst ys))) gList := ⟨by subst hK; exact call_list_of, by
  intro O H vs ds d Q ok r hg q
  unfold gList at hg
  split at hg
  · rename_i es
    cases hg
    obtain ⟨v, rfl, r1⟩ := rep1 r
    cases r1 with
    | lst h r' => exact ⟨_, _, rfl, .inl (hid_le.seq h), fun l hl => q l _ _ (Same.new hl) hl upd_same (r'.mono (hid_new hl))⟩
  · rename_i es
    cases hg
    obtain ⟨v, rfl, r1⟩ := rep1 r
    cases r1 with
    | tup h r' => exact ⟨_, _, rfl, .inr (hid_le.seqT h), fun l hl => q l _ _ (Same.new hl) hl upd_same (r'.mono (hid_new hl))⟩
  · cases hg⟩
theorem jc_max (hc : X.calm = true) : CallJ X K (.builtin "max") (fun xs H Q => ∃ i j, xs = [.int i, .int j] ∧ Q (.int (if j > i then j else i)) H) gMax := ⟨call_max2 hc, by
  intro O H vs ds d Q ok r hg q
  unfold gMax at hg
  split at hg
  · rename_i i j
    cases hg
    obtain ⟨v, u, rfl, r1, r2⟩ := rep2 r
    cases r1
    cases r2
    refine ⟨i, j, rfl, ?_⟩
    have e : (if j > i then j else i) = max i j := by omega
    rw [e]
    exact q _ H (Same.refl H) (.int _)
  · cases hg⟩
theorem jc_min (hc : X.calm = true) : CallJ X K (.builtin "min") (fun xs H Q => ∃ i j, xs = [.int i, .int j] ∧ Q (.int (if j < i then j else i)) H) gMin := ⟨call_min2 hc, by
  intro O H vs ds d Q ok r hg q
  unfold gMin at hg
  split at hg
  · rename_i i j
    cases hg
    obtain ⟨v, u, rfl, r1, r2⟩ := rep2 r
    cases r1
    cases r2
    refine ⟨i, j, rfl, ?_⟩
    have e : (if j < i then j else i) = min i j := by omega
    rw [e]
    exact q _ H (Same.refl H) (.int _)
  · cases hg⟩
theorem jc_int : CallJ X K (.type "int") (fun xs H Q => (∃ i, xs = [.int i] ∧ Q (.int i) H) ∨ ∃ k, xs = [.bl k] ∧ Q (.int (if k then 1 else 0)) H) gInt := ⟨call_int1, by
  intro O H vs ds d Q ok r hg q
  unfold gInt at hg
  split at hg
  · rename_i i
    cases hg
    obtain ⟨v, rfl, r1⟩ := rep1 r
    cases r1
    exact .inl ⟨i, rfl, q _ H (Same.refl H) (.int _)⟩
  · rename_i b
    cases hg
    obtain ⟨v, rfl, r1⟩ := rep1 r
    cases r1
    exact .inr ⟨b, rfl, q _ H (Same.refl H) (.int _)⟩
  · cases hg⟩
def tyD : D → String
  | .none => "NoneType"
  | .bool _ => "bool"
  | .int _ => "int"
  | .str _ => "str"
  | .list _ => "list"
  | .tuple _ => "tuple"
  | .dict [] => "dict"
  | .dict (_ :: _) => "object"
def pIsi (U : String) (f : PF) : PF := fun ρ => (f ρ).bind fun d => some (.bool (subT (tyD d) U))
def PuO (K : PySem.W.Frag) (t : TO) (f : PEnv → Option (Option Int)) : Prop := ∀ (O : List Addr) (σ : St) (H : Hp) (ρ : PEnv) (b : Option Int) (Q : Option Int → Hp → Prop), OkO O H → EnvR K (hid O H) σ ρ → f ρ = some b →
  (∀ H', Same H H' → Q b H') → t σ H Q
structure JO (X : Cx) (K : PySem.W.Frag) (e : Option Expr) (t : TO) (f : PEnv → Option (Option Int)) : Prop where
  pe : PO X e t
  pu : PuO K t f
def asI : D → Option Int
  | .int i => some i
  | _ => none
def pNoPart : PEnv → Option (Option Int) := fun _ => some none
def pPart (f : PF) : PEnv → Option (Option Int) := fun ρ => (f ρ).bind fun d => (asI d).bind fun i => some (some i)
theorem jo_some {e : Expr} {te : TE} {f : PF} (h : JE X K e te f) : JO X K (some e) (tPart te) (pPart f) := ⟨po_some h.pe, by
  intro O σ H ρ b Q ok er hf q
  obtain ⟨x, e1, hf⟩ := bind_some' hf
  obtain ⟨i, e2, hf⟩ := bind_some' hf
  cases hf
  refine h.pu O σ H ρ x _ ok er e1 fun v H1 s1 r1 => ?_
  cases r1 with
  | int j => cases e2; exact ⟨_, rfl, q H1 s1⟩
  | _ => cases e2⟩
def cutD (xs : List D) (lo hi : Option Int) : List D := (xs.drop (HT.sIx xs.length 0 lo)).take (HT.sIx xs.length xs.length hi - HT.sIx xs.length 0 lo)
theorem RepAll.cut {H : Hp} {xs : List V} {ds : List D} (r : RepAll K H xs ds) (lo hi : Option Int) : RepAll K H (cutV xs lo hi) (cutD ds lo hi) := by
  unfold cutV cutD
  rw [r.length]
  exact (r.drop _).take _
def asL : D → Option (List D)
  | .list ds => some ds
  | _ => none
def asT : D → Option (List D)
  | .tuple ds => some ds
  | _ => none
def pSl (f : PF) (l u : PEnv → Option (Option Int)) : PAs := fun ρ => (f ρ).bind fun d => (l ρ).bind fun lo => (u ρ).bind fun hi => (asL d).bind fun ds => some (cutD ds lo hi)
theorem jl_slice {e : Expr} {te : TE} {f : PF} {lo hi : Option Expr} {tl th : TO} {fl fh : PEnv → Option (Option Int)} {p2 pos : Pos} (hK : X.K = K) (he : JE X K e te f) (hl : JO X K lo tl fl) (hu : JO X K hi th fh) :
    JL X K (.Subscript e (.Slice lo hi none p2) pos) (tSl (rSlL K) te tl th) (pSl f fl fh) := ⟨by subst hK; exact pe_slice sl_list he.pe hl.pe hu.pe, by
  intro O σ H ρ ds Q ok er hf q
  obtain ⟨x, e1, hf⟩ := bind_some' hf
  obtain ⟨l, e2, hf⟩ := bind_some' hf
  obtain ⟨u, e3, hf⟩ := bind_some' hf
  obtain ⟨es, e4, hf⟩ := bind_some' hf
  cases hf
  refine he.pu O σ H ρ x _ ok er e1 fun v H1 s1 r1 => ?_
  refine hl.pu O σ H1 ρ l _ (ok.mono s1) (er.hid s1) e2 fun H2 s2 => ?_
  refine hu.pu O σ H2 ρ u _ ((ok.mono s1).mono s2) (er.hid (s1.trans s2)) e3 fun H3 s3 => ?_
  have r3 := r1.hid (s2.trans s3)
  cases r3 with
  | lst h r' =>
    cases e4
    refine ⟨_, _, rfl, hid_le.seq h, fun p hp => ?_⟩
    have s03 := (s1.trans s2).trans s3
    exact q p _ _ (s03.trans (Same.new hp)) (s03.free hp) upd_same ((r'.cut l u).mono (hid_new hp))
  | _ => cases e4⟩
def rCatS (K : PySem.W.Frag) : R2 := fun x y H Q => ∃ l b xs zs, x = .ref l ∧ y = .ref b ∧ SqL K H l xs ∧ SqL K H b zs ∧ xs.length + zs.length ≤ sizeLine ∧ ∀ p, H p = none → Q (.ref p) (upd H p (.lst (xs ++ zs)))
theorem op_catS : OpR X (binaryOp .Add) (rCatS X.K) := by
  intro pins s σ H x y v u Q I rx ry h
  obtain ⟨l, b, xs, zs, rfl, rfl, hH, hB, hz, q⟩ := h
  cases rx
  cases ry
  obtain ⟨its, r, pl, hl⟩ := I.list hH
  obtain ⟨its2, r2, pl2, hl2⟩ := I.list hB
  obtain ⟨⟨cls, dd, data, sl⟩, n, ho, hc, hd, hs⟩ := pl
  obtain ⟨⟨cls2, dd2, data2, sl2⟩, n2, ho2, hc2, hd2, hs2⟩ := pl2
  simp only at hc hd hs hc2 hd2 hs2
  subst hc hd hs hc2 hd2 hs2
  have e : its.toArray ++ its2.toArray = (its ++ its2).toArray := by simp
  refine concat_meets ⟨_, ho, rfl⟩ ⟨_, ho2, rfl⟩ noFill_list_add seq_list_add PySem.F.slot_list_add PySem.F.entry_list_add (PySem.F.args_list_add_2 _ _) (list_addW l b its.toArray its2.toArray n n2 none none sl sl2 (by have := r.length; have := r2.length; simp; omega)) ⟨ho, ho2, ?_⟩
  rw [e]
  exact ⟨.ref _, _, I.lnew (t' := s.toks) (r.append r2) (by rw [List.length_append]; omega), rfl, q _ I.fresh⟩
def pCat (a b : PF) : PAs := fun ρ => (a ρ).bind fun x => (b ρ).bind fun y => (asL x).bind fun xs => (asL y).bind fun ys => if fits (xs.length + ys.length) = true then some (xs ++ ys) else none
theorem jl_cat {a b : Expr} {ta tb : TE} {fa fb : PF} {pos : Pos} (hK : X.K = K) (ha : JE X K a ta fa) (hb : JE X K b tb fb) : JL X K (.BinOp a .Add b pos) (tOp (rCatS K) ta tb) (pCat fa fb) := ⟨by subst hK; exact pe_op op_catS ha.pe hb.pe, by
  intro O σ H ρ ds Q ok er hf q
  obtain ⟨x, e1, hf⟩ := bind_some' hf
  obtain ⟨y, e2, hf⟩ := bind_some' hf
  obtain ⟨xs, e3, hf⟩ := bind_some' hf
  obtain ⟨ys, e4, hf⟩ := bind_some' hf
  by_cases hc : fits (xs.length + ys.length) = true
  · rw [if_pos hc] at hf
    cases hf
    refine ha.pu O σ H ρ x _ ok er e1 fun v H1 s1 r1 => ?_
    refine hb.pu O σ H1 ρ y _ (ok.mono s1) (er.hid s1) e2 fun u H2 s2 r2 => ?_
    have r1' := r1.hid s2
    cases r1' with
    | lst h r' =>
      cases e3
      cases r2 with
      | lst h2 r2' =>
        cases e4
        refine ⟨_, _, _, _, rfl, rfl, hid_le.seq h, hid_le.seq h2, by rw [r'.length, r2'.length]; exact fits_le hc, fun p hp => ?_⟩
        have s02 := s1.trans s2
        exact q p _ _ (s02.trans (Same.new hp)) (s02.free hp) upd_same ((r'.append r2').mono (hid_new hp))
      | _ => cases e4
    | _ => cases e3
  · rw [if_neg hc] at hf
    cases hf⟩
end
end L2
set_option maxHeartbeats 4000000
namespace L2
open PySem PySem.Spec PyProof.Rows
def ItOk (K : PySem.W.Frag) (G : Hp) (J : It) (items : List D) : Prop := ∀ (Oc : List Addr) (H' : Hp), OkO Oc H' → Same G (hid Oc H') →
  (∀ i, i < items.length → J.go i H') ∧ (∀ i x H'', i < items.length → J.yld i H' x H'' → ∃ d, items[i]? = some d ∧ Same H' H'' ∧ Rep K (hid Oc H'') x d) ∧ J.stop items.length H'
def PuI (K : PySem.W.Frag) (wi : TI) (f : PAs) : Prop := ∀ (O : List Addr) (σ : St) (H : Hp) (ρ : PEnv) (items : List D) (R : It → Hp → Prop), OkO O H → EnvR K (hid O H) σ ρ → f ρ = some items →
  (∀ J H1, Same H H1 → ItOk K (hid O H1) J items → R J H1) → wi σ H R
structure JI (X : Cx) (K : PySem.W.Frag) (tg e : Expr) (wi : TI) (f : PAs) : Prop where
  pe : PI X tg e wi
  pu : PuI K wi f
def pItL (f : PF) : PAs := fun ρ => (f ρ).bind asL
def pItT (f : PF) : PAs := fun ρ => (f ρ).bind asT
def rangeD (lo : Int) (n : Nat) : List D := (List.range n).map fun i => .int (lo + (i : Nat))
def gRange1 : List D → Option (List D)
  | [.int j] => if -(2 ^ 62) ≤ j ∧ j < 2 ^ 62 then some (rangeD 0 j.toNat) else none
  | _ => none
def gRange2 : List D → Option (List D)
  | [.int i, .int j] => if -(2 ^ 62) ≤ i ∧ i < 2 ^ 62 ∧ -(2 ^ 62) ≤ j ∧ j < 2 ^ 62 then some (rangeD i (j - i).toNat) else none
  | _ => none
def enumD (ds : List D) : List D := ds.zipIdx.map fun p => .tuple [.int (p.2 : Nat), p.1]
def gEnum : List D → Option (List D)
  | [.list ds] => some (enumD ds)
  | _ => none
def zipD (xs ys : List D) : List D := List.zipWith (fun a b => .tuple [a, b]) xs ys
def gZip : List D → Option (List D)
  | [.list xs, .list ys] => some (zipD xs ys)
  | _ => none
section
variable {X : Cx} {K : PySem.W.Frag} {tg : Expr}
theorem itok_list {G : Hp} {a : Addr} {xs : List V} {ds : List D} (h : SqL K G a xs) (r : RepAll K G xs ds) : ItOk K G (Itl K a) ds := by
  intro Oc H' ok s
  have hq : SqL K H' a xs := (s.trans hid_le).seq h
  have hl := r.length
  refine ⟨fun i hi => ⟨xs, xs[i], hq, by simp [show i < xs.length by omega]⟩, fun i x H'' hi y => ?_, ⟨xs, hq, by omega⟩⟩
  obtain ⟨e, y⟩ := y
  subst e
  obtain ⟨d, e, rd⟩ := r.getX (y xs hq)
  exact ⟨d, e, Same.refl _, rd.mono s⟩
theorem rangeD_len (lo : Int) (n : Nat) : (rangeD lo n).length = n := by simp [rangeD]
theorem rangeD_get {lo : Int} {n i : Nat} (h : i < n) : (rangeD lo n)[i]? = some (.int (lo + (i : Nat))) := by simp [rangeD, h]
theorem itok_range {G : Hp} {lo : Int} {n : Nat} : ItOk K G (Itr lo n) (rangeD lo n) := by
  intro Oc H' ok s
  rw [rangeD_len]
  refine ⟨fun i hi => hi, fun i x H'' hi y => ?_, Nat.le_refl _⟩
  obtain ⟨e, y⟩ := y
  subst e y
  exact ⟨_, rangeD_get hi, Same.refl _, .int _⟩
theorem enumD_get {ds : List D} {i : Nat} {d : D} (h : ds[i]? = some d) : (enumD ds)[i]? = some (.tuple [.int (i : Nat), d]) := by
  unfold enumD
  rw [List.getElem?_map, List.getElem?_zipIdx, h]
  simp
theorem itok_enum {G : Hp} {a : Addr} {xs : List V} {ds : List D} (h : SqL K G a xs) (r : RepAll K G xs ds) : ItOk K G (Ite K a) (enumD ds) := by
  intro Oc H' ok s
  have hq : SqL K H' a xs := (s.trans hid_le).seq h
  have hl := r.length
  have hn : (enumD ds).length = ds.length := by simp [enumD]
  rw [hn]
  refine ⟨fun i hi => ⟨xs, xs[i], hq, by simp [show i < xs.length by omega]⟩, fun i x H'' hi y => ?_, ⟨xs, hq, by omega⟩⟩
  obtain ⟨p, z, hp, rfl, rfl, y⟩ := y
  obtain ⟨d, e, rd⟩ := r.getX (y xs hq)
  have sn : Same H' (upd H' p (.tup [.int i, z])) := Same.new hp
  refine ⟨_, enumD_get e, sn, .tup (SqT.of ?_) (.cons (.int _) (.cons ((rd.mono s).hid sn) .nil))⟩
  rw [hid_out (ok.fresh hp)]
  exact upd_same
theorem ji_list {l : Expr} {tl : TE} {f : PF} (hK : X.K = K) (h : JE X K l tl f) : JI X K tg l (iList K tl) (pItL f) := ⟨by subst hK; exact pi_list h.pe, by
  intro O σ H ρ items R ok er hf q
  obtain ⟨x, e1, hf⟩ := bind_some' hf
  refine h.pu O σ H ρ x _ ok er e1 fun v H1 s1 r1 => ?_
  cases r1 with
  | lst hq r' => cases hf; exact ⟨_, rfl, ⟨_, hid_le.seq hq⟩, q _ H1 s1 (itok_list hq r')⟩
  | _ => cases hf⟩
theorem ji_range1 {a : Expr} {ta : TA} {r : PAs} {p pos : Pos} (hg : Gl X "range") (hm : X.mg "range" = none) (ha : JA X K [a] ta r) (hs : starEach [a] X.env = [(false, eval a X.env)] := by rfl) : JI X K tg (.Call (.Name "range" p) [a] [] pos) (iRng1 ta) (pCallL gRange1 r) := ⟨pi_range1 hg hm ha.pe hs, by
  intro O σ H ρ items R ok er hf q
  obtain ⟨ds, e1, hf⟩ := bind_some' hf
  refine ha.pu O σ H ρ ds _ ok er e1 fun vs H1 s1 r1 => ?_
  unfold gRange1 at hf
  split at hf
  · rename_i j
    obtain ⟨v, rfl, rv⟩ := rep1 r1
    cases rv
    by_cases hc : -(2 ^ 62) ≤ j ∧ j < 2 ^ 62
    · rw [if_pos hc] at hf
      cases hf
      exact ⟨j, rfl, hc.1, hc.2, q _ H1 s1 itok_range⟩
    · rw [if_neg hc] at hf
      cases hf
  · cases hf⟩
theorem ji_range2 {a b : Expr} {ta : TA} {r : PAs} {p pos : Pos} (hg : Gl X "range") (hm : X.mg "range" = none) (ha : JA X K [a, b] ta r) (hs : starEach [a, b] X.env = [(false, eval a X.env), (false, eval b X.env)] := by rfl) (hs2 : starEach [b] X.env = [(false, eval b X.env)] := by rfl) :
    JI X K tg (.Call (.Name "range" p) [a, b] [] pos) (iRng2 ta) (pCallL gRange2 r) := ⟨pi_range2 hg hm ha.pe hs hs2, by
  intro O σ H ρ items R ok er hf q
  obtain ⟨ds, e1, hf⟩ := bind_some' hf
  refine ha.pu O σ H ρ ds _ ok er e1 fun vs H1 s1 r1 => ?_
  unfold gRange2 at hf
  split at hf
  · rename_i i j
    obtain ⟨v, u, rfl, rv, ru⟩ := rep2 r1
    cases rv
    cases ru
    by_cases hc : -(2 ^ 62) ≤ i ∧ i < 2 ^ 62 ∧ -(2 ^ 62) ≤ j ∧ j < 2 ^ 62
    · rw [if_pos hc] at hf
      cases hf
      exact ⟨i, j, rfl, hc, q _ H1 s1 itok_range⟩
    · rw [if_neg hc] at hf
      cases hf
  · cases hf⟩
theorem ji_enum {elts : List Expr} {k1 : Nat} {tpos : Pos} {a : Expr} {ta : TA} {r : PAs} {p pos : Pos} (hK : X.K = K) (hg : Gl X "enumerate") (hm : X.mg "enumerate" = none) (ha : JA X K [a] ta r) (hs : starEach [a] X.env = [(false, eval a X.env)] := by rfl) :
    JI X K (.Tuple elts k1 tpos) (.Call (.Name "enumerate" p) [a] [] pos) (iEnum K ta) (pCallL gEnum r) := ⟨by subst hK; exact pi_enum hg hm ha.pe hs, by
  intro O σ H ρ items R ok er hf q
  obtain ⟨ds, e1, hf⟩ := bind_some' hf
  refine ha.pu O σ H ρ ds _ ok er e1 fun vs H1 s1 r1 => ?_
  unfold gEnum at hf
  split at hf
  · rename_i es
    obtain ⟨v, rfl, rv⟩ := rep1 r1
    cases hf
    cases rv with
    | lst hq r' => exact ⟨_, rfl, ⟨_, hid_le.seq hq⟩, q _ H1 s1 (itok_enum hq r')⟩
  · cases hf⟩
end
def PuG (K : PySem.W.Frag) (g : TG) (bd : D → PEnv → Option PEnv) : Prop := ∀ (O : List Addr) (v : V) (d : D) (σ : St) (H : Hp) (ρ ρ' : PEnv) (Q : St → Hp → Prop), OkO O H → Rep K (hid O H) v d → EnvR K (hid O H) σ ρ → σ.length = ρ.length → bd d ρ = some ρ' →
  (∀ σ', σ'.length = ρ'.length → EnvR K (hid O H) σ' ρ' → Q σ' H) → g v σ H Q
structure JG (X : Cx) (K : PySem.W.Frag) (tg : Expr) (g : TG) (bd : D → PEnv → Option PEnv) : Prop where
  pe : PG X tg g
  pu : PuG K g bd
def bd1 (i : Nat) : D → PEnv → Option PEnv := fun d ρ => some (ρ.set i (some d))
def bd2 (i j : Nat) : D → PEnv → Option PEnv
  | .tuple [a, b], ρ => some ((ρ.set i (some a)).set j (some b))
  | _, _ => none
theorem EnvR.set {K : PySem.W.Frag} {H : Hp} {σ : St} {ρ : PEnv} {v : V} {d : D} (e : EnvR K H σ ρ) (hl : σ.length = ρ.length) (r : Rep K H v d) (i : Nat) : EnvR K H (σ.set i (some v)) (ρ.set i (some d)) := fun j d' h => by
  by_cases hj : i = j
  · subst hj
    by_cases hi : i < ρ.length
    · rw [List.getElem?_set_self hi] at h
      cases h
      exact ⟨v, by rw [List.getElem?_set_self (by omega)], r⟩
    · rw [List.getElem?_eq_none (by simp; omega)] at h
      cases h
  · rw [List.getElem?_set_ne hj] at h
    obtain ⟨u, e1, r1⟩ := e j d' h
    exact ⟨u, by rw [List.getElem?_set_ne hj]; exact e1, r1⟩
section
variable {X : Cx} {K : PySem.W.Frag} {pos : Pos}
theorem jg_name {i : Nat} {x : Str} (hN : X.N.Nodup) (hi : X.N[i]? = some x) (hx : Loc X.env.scope x) (hf : X.fn x = true ∨ X.env.scope.names.lookup x = some .local := by first | exact .inl rfl | exact .inr rfl | assumption) : JG X K (.Name x pos) (gName i) (bd1 i) := ⟨pg_name hN hi hx hf, by
  intro O v d σ H ρ ρ' Q ok r er hl hb q
  cases hb
  exact q _ (by simp [hl]) (er.set hl r i)⟩
theorem jg_two {i j : Nat} {x y : Str} {p1 p2 : Pos} {k : Nat} (hK : X.K = K) (hc : X.calm = true) (hN : X.N.Nodup) (hi : X.N[i]? = some x) (hx : Loc X.env.scope x) (hj : X.N[j]? = some y) (hy : Loc X.env.scope y)
    (hf : X.fn x = true ∨ X.env.scope.names.lookup x = some .local := by first | exact .inl rfl | exact .inr rfl | assumption) (hf2 : X.fn y = true ∨ X.env.scope.names.lookup y = some .local := by first | exact .inl rfl | exact .inr rfl | assumption)
    (h1 : (assignEach [.Name x p1, .Name y p2] X.env).map (·.2) = assign (.Name x p1) X.env :: (assignEach [.Name y p2] X.env).map (·.2) := by rfl) (h2 : (assignEach [.Name y p2] X.env).map (·.2) = assign (.Name y p2) X.env :: (assignEach [] X.env).map (·.2) := by rfl)
    (hn : (assignEach [.Name x p1, .Name y p2] X.env).length = 2 := by rfl) (hst : (assignEach [.Name x p1, .Name y p2] X.env).findIdx? (·.1) = none := by rfl) :
    JG X K (.Tuple [.Name x p1, .Name y p2] k pos) (gTup K 2 (gCons (gName i) (gCons (gName j) gNil))) (bd2 i j) := ⟨by
  subst hK
  exact pg_tup hc (pgs_cons (pg_name hN hi hx hf) (pgs_cons (pg_name hN hj hy hf2) pgs_nil h2) h1) hn hst, by
  intro O v d σ H ρ ρ' Q ok r er hl hb q
  unfold bd2 at hb
  split at hb
  · rename_i a b _
    cases hb
    cases r with
    | tup hq r' =>
      obtain ⟨v1, v2, rfl, r1, r2⟩ := rep2 r'
      refine ⟨_, _, rfl, hid_le.seqT hq, rfl, _, _, rfl, _, _, rfl, rfl, ?_⟩
      exact q _ (by simp [hl]) ((er.set hl r1 i).set (by simp [hl]) r2 j)
  · cases hb⟩
end
def compP (bd : D → PEnv → Option PEnv) (pt : PB) (fe : PF) (ρ0 : PEnv) : List D → Option (List D)
  | [] => some []
  | d :: ds => (bd d ρ0).bind fun ρ1 => (pt ρ1).bind fun b => if b = true then (fe ρ1).bind fun e => (compP bd pt fe ρ0 ds).bind fun r => some (e :: r) else compP bd pt fe ρ0 ds
def compEnv (n : Nat) (is : List Nat) (ρ : PEnv) : PEnv := List.replicate n none ++ is.map fun i => (ρ[i]?).join
def pComp (fi : PAs) (bd : D → PEnv → Option PEnv) (pt : PB) (fe : PF) (n : Nat) (is : List Nat) : PAs := fun ρ => (fi ρ).bind fun items => if fits items.length = true then compP bd pt fe (compEnv n is ρ) items else none
theorem compEnv_r {K : PySem.W.Frag} {H : Hp} {σ : St} {ρ : PEnv} {n : Nat} {fv : List (Nat × Str)} (e : EnvR K H σ ρ) : EnvR K H (compSt n fv σ) (compEnv n (fv.map (·.1)) ρ) := fun i d h => by
  unfold compEnv at h
  by_cases hi : i < n
  · rw [List.getElem?_append_left (by simpa using hi), List.getElem?_replicate, if_pos hi] at h
    cases h
  · have hn : n ≤ i := by omega
    rw [List.getElem?_append_right (by simpa using hn), List.length_replicate, List.getElem?_map, List.getElem?_map] at h
    cases e1 : fv[i - n]? with
    | none => rw [e1] at h; cases h
    | some p =>
      rw [e1] at h
      have h' : (ρ[p.1]?).join = some d := Option.some.inj h
      have h2 : ρ[p.1]? = some (some d) := by
        cases e2 : ρ[p.1]? with
        | none => rw [e2] at h'; cases h'
        | some o => rw [e2] at h'; rw [show o = some d from h']
      obtain ⟨v, e3, r⟩ := e p.1 d h2
      refine ⟨v, ?_, r⟩
      unfold compSt
      rw [List.getElem?_append_right (by simpa using hn), List.length_replicate, List.getElem?_map, e1]
      show some (σ[p.1]?).join = _
      rw [e3]
      rfl
section
variable {K : PySem.W.Frag} {wi : TI} {g : TG} {tc : TT} {te : TE} {fi : PAs} {bd : D → PEnv → Option PEnv} {pt : PB} {fe : PF}
theorem pu_comp (hi : PuI K wi fi) (hg : PuG K g bd) (ht : PuT K tc pt) (he : PuE K te fe) (n : Nat) (fv : List (Nat × Str)) : PuL K (tComp wi g tc te n fv) (pComp fi bd pt fe n (fv.map (·.1))) := by
  intro O σ H ρ total Q ok er hf q
  obtain ⟨items, e1, hf⟩ := bind_some' hf
  by_cases hc : fits items.length = true
  case neg => rw [if_neg hc] at hf; cases hf
  rw [if_pos hc] at hf
  refine hi O σ H ρ items _ ok er e1 fun J H1 s1 it => fun D0 hD0 => ?_
  have hlt : items.length < sizeLine := of_decide_eq_true hc
  have okD : ∀ {H'}, H' D0 ≠ none → Same H1 H' → OkO (D0 :: O) H' := fun {H'} hn s' a ha => by
    rcases List.mem_cons.mp ha with rfl | ha
    · cases e : H' a with
      | none => exact absurd e hn
      | some o => exact ⟨o, rfl⟩
    · exact ((ok.mono s1).mono s') a ha
  have sD : ∀ {H'}, Same H1 H' → Same (hid O H1) (hid (D0 :: O) H') := fun {H'} s' b o e => by
    obtain ⟨n1, e⟩ := hid_some e
    have nb : b ≠ D0 := ne_of_none e hD0
    rw [hid_out (by simp [nb, n1])]
    exact s' b o e
  have er1 : EnvR K (hid O H1) σ ρ := er.hid s1
  have lenE : (compSt n fv σ).length = (compEnv n (fv.map (·.1)) ρ).length := by simp [compSt, compEnv]
  refine comp_n (n := items.length) (fun i ys H' => H' D0 = some (.lst ys) ∧ Same H1 H' ∧ ys.length ≤ i ∧ ∃ es rest, RepAll K (hid (D0 :: O) H') ys es ∧ compP bd pt fe (compEnv n (fv.map (·.1)) ρ) (items.drop i) = some rest ∧ es ++ rest = total)
    ⟨upd_same, Same.new hD0, Nat.zero_le _, [], total, .nil, by simpa using hf, rfl⟩ (fun i ys H' p => p.1) (fun i ys H' hi' p => ((it (D0 :: O) H' (okD (by rw [p.1]; simp) p.2.1) (sD p.2.1)).1 i hi')) ?_ ?_
  · rintro i ys H' x H'' hi' ⟨hD', s', hy, es, rest, rr, hcp, htot⟩ yl
    obtain ⟨d, ed, s'', rd⟩ := (it (D0 :: O) H' (okD (by rw [hD']; simp) s') (sD s')).2.1 i x H'' hi' yl
    have hdrop : items.drop i = d :: items.drop (i + 1) := by
      rw [List.drop_eq_getElem_cons hi']
      congr 1
      exact Option.some.inj ((List.getElem?_eq_getElem hi').symm.trans ed)
    rw [hdrop] at hcp
    obtain ⟨ρ1, eb, hcp⟩ := bind_some' hcp
    obtain ⟨b, et, hcp⟩ := bind_some' hcp
    have s2 := s'.trans s''
    have hD'' := s'' _ _ hD'
    have ok2 : OkO (D0 :: O) H'' := okD (by rw [hD'']; simp) s2
    refine hg (D0 :: O) x d _ H'' _ ρ1 _ ok2 rd ((compEnv_r er1).mono (sD s2)) lenE eb fun σ2 hl2 er2 => ?_
    refine ht (D0 :: O) σ2 H'' ρ1 b _ ok2 er2 et fun H3 s3 => ?_
    have s03 := s2.trans s3
    have hD3 := s3 _ _ hD''
    cases b with
    | false =>
      rw [if_neg Bool.false_ne_true] at hcp ⊢
      exact ⟨hD3, s03, by omega, es, rest, rr.hid (s''.trans s3), hcp, htot⟩
    | true =>
      rw [if_pos rfl] at hcp ⊢
      obtain ⟨e, ee, hcp⟩ := bind_some' hcp
      obtain ⟨r, er', hcp⟩ := bind_some' hcp
      cases hcp
      refine he (D0 :: O) σ2 H3 ρ1 e _ (ok2.mono s3) (er2.hid s3) ee fun v H4 s4 rv => ?_
      have hD4 := s4 _ _ hD3
      have s04 := s03.trans s4
      refine ⟨hD4, by omega, upd_same, ?_, by rw [List.length_append]; show ys.length + 1 ≤ i + 1; omega, es ++ [e], r, ?_, er', by rw [List.append_assoc]; exact htot⟩
      · intro b' o' eb'
        rw [upd_ne (ne_of_none eb' hD0)]
        exact s04 b' o' eb'
      · rw [hid_upd (List.mem_cons_self)]
        exact (rr.hid ((s''.trans s3).trans s4)).append (.cons rv .nil)
  · rintro ys H' ⟨hD', s', hy, es, rest, rr, hcp, htot⟩
    refine ⟨(it (D0 :: O) H' (okD (by rw [hD']; simp) s') (sD s')).2.2, ?_⟩
    rw [List.drop_length] at hcp
    cases hcp
    rw [List.append_nil] at htot
    subst htot
    exact q D0 ys H' (s1.trans s') (s1.free hD0) hD' rr
end
section
variable {X : Cx} {K : PySem.W.Frag} {tg elt iter : Expr} {ifs : List Expr} {scope : Scope} {wi : TI} {g : TG} {tc : TT} {te : TE} {fi : PAs} {bd : D → PEnv → Option PEnv} {pt : PB} {fe : PF}
structure JTs (X : Cx) (K : PySem.W.Frag) (ifs : List Expr) (t : TT) (f : PB) : Prop where
  pe : PTs X ifs t
  pu : PuT K t f
theorem jts_nil : JTs X K [] tTrue pTrue := ⟨pts_nil, by
  intro O σ H ρ b Q ok er h q
  cases h
  exact q H (Same.refl H)⟩
theorem jts_one {c : Expr} {t : TT} {f : PB} (h : JT X K c t f) : JTs X K [c] t f := ⟨pts_one h.pe, h.pu⟩
theorem jl_comp {pos : Pos} (own : List Str) (fv : List (Nat × Str)) (hc : X.calm = true) (hi : JI X K tg iter wi fi) (fo : FvOk X scope fv) (gk : GKeep own.length g)
    (bg : ∀ fp pins s H, JG (cxComp X (own ++ fv.map (·.2)) scope (clF X.env scope.names []) fp pins s H) K tg g bd)
    (bt : ∀ fp pins s H, JTs (cxComp X (own ++ fv.map (·.2)) scope (clF X.env scope.names []) fp pins s H) K ifs tc pt)
    (be : ∀ fp pins s H, JE (cxComp X (own ++ fv.map (·.2)) scope (clF X.env scope.names []) fp pins s H) K elt te fe)
    (kind : scope.kind = .function) (cell : ∀ y ∈ scope.names, y.2 ≠ .cell) (names : ∀ x ∈ scope.names, x.2 = .local → scope.names.lookup x.1 = some .local)
    (free : freeOk X scope = true)
    (hs : ∀ x, foldedSetIterable iter X.env x = pure x := by intro _; rfl) :
    JL X K (.ListComp elt [⟨tg, iter, ifs, 0⟩] scope pos) (tComp wi g tc te own.length fv) (pComp fi bd pt fe own.length (fv.map (·.1))) :=
  ⟨pe_comp own fv hc hi.pe fo gk (fun fp pins s H => (bg fp pins s H).pe) (fun fp pins s H => (bt fp pins s H).pe) (fun fp pins s H => (be fp pins s H).pe) kind cell names free hs,
   pu_comp hi.pu (bg [] [] X.s₀ X.H₀).pu (bt [] [] X.s₀ X.H₀).pu (be [] [] X.s₀ X.H₀).pu _ _⟩
end
end L2
set_option maxHeartbeats 4000000
namespace L2
open PySem PySem.Spec PyProof.Rows
inductive Cn where
  | obj (ks : List Str) (ds : List D)
  | lst (ds : List D)
  | dct (kvs : List (Int × D))
def Cn.view : Cn → Option D
  | .obj ks ds => some (.dict (objK ks ds))
  | .lst ds => some (.list ds)
  | .dct _ => none
inductive Sl where
  | no
  | sh (d : D)
  | ow (ds : List D)
  | on (dss : List (List D))
  | tr (a : Addr) (c : Cn)
abbrev SEnv := List Sl
def Sl.view : Sl → Option D
  | .no => none
  | .sh d => some d
  | .ow ds => some (.list ds)
  | .on dss => some (.list (dss.map .list))
  | .tr _ c => c.view
def Sl.mask : Sl → Option D
  | .sh d => some d
  | _ => none
def full (ρ : SEnv) : PEnv := ρ.map Sl.view
def masked (ρ : SEnv) : PEnv := ρ.map Sl.mask
theorem refs_inj {H : Hp} {a : Addr} {ps qs : List Addr} (e : H a = some (.lst (ps.map V.ref))) (e' : H a = some (.lst (qs.map V.ref))) : ps = qs := by
  rw [e] at e'
  have : ps.map V.ref = qs.map V.ref := by injection e' with e'; injection e'
  exact (List.map_inj_right fun x y z => by injection z).mp this
inductive Inner (K : PySem.W.Frag) (G H : Hp) : List Addr → List (List D) → Prop
  | nil : Inner K G H [] []
  | cons {p : Addr} {xs : List V} {ds : List D} {ps : List Addr} {dss : List (List D)} : H p = some (.lst xs) → RepAll K G xs ds → Inner K G H ps dss → Inner K G H (p :: ps) (ds :: dss)
section
variable {K : PySem.W.Frag} {G G' H H' : Hp}
theorem Inner.mem {ps : List Addr} {dss : List (List D)} (i : Inner K G H ps dss) : ∀ a ∈ ps, ∃ xs, H a = some (.lst xs) := by
  induction i with
  | nil => intro a h; cases h
  | cons e _ _ ih =>
    intro b h
    rcases List.mem_cons.mp h with rfl | h
    · exact ⟨_, e⟩
    · exact ih b h
theorem Inner.mono {ps : List Addr} {dss : List (List D)} (i : Inner K G H ps dss) (g : Same G G') (h : ∀ a ∈ ps, ∀ o, H a = some o → H' a = some o) : Inner K G' H' ps dss := by
  induction i with
  | nil => exact .nil
  | cons e r _ ih => exact .cons (h _ List.mem_cons_self _ e) (r.mono g) (ih fun a ha => h a (List.mem_cons_of_mem _ ha))
theorem Inner.full {ps : List Addr} {dss : List (List D)} (i : Inner K G H ps dss) (g : Same G G') (h : ∀ a ∈ ps, ∀ o, H a = some o → G' a = some o) : RepAll K G' (ps.map V.ref) (dss.map .list) := by
  induction i with
  | nil => exact .nil
  | cons e r _ ih => exact .cons (.lst (SqL.of (h _ List.mem_cons_self _ e)) (r.mono g)) (ih fun a ha => h a (List.mem_cons_of_mem _ ha))
end
def isOwn : HO → Bool
  | .lst _ => true
  | .ins _ _ _ => true
  | .dK _ => true
  | _ => false
def Held (K : PySem.W.Frag) (G H : Hp) (a : Addr) : Cn → Prop
  | .obj ks ds => ∃ C dx fs, ObK K C ∧ H a = some (.ins C dx fs) ∧ fs.map (·.1) = ks ∧ RepAll K G (fs.map (·.2)) ds
  | .lst ds => ∃ xs, H a = some (.lst xs) ∧ RepAll K G xs ds
  | .dct kvs => ∃ ps : List (Int × V), H a = some (.dK (ps.map fun p => (Sum.inl p.1, p.2))) ∧ ps.map (·.1) = kvs.map (·.1) ∧ RepAll K G (ps.map (·.2)) (kvs.map (·.2))
theorem Held.own {K : PySem.W.Frag} {G H : Hp} {a : Addr} {c : Cn} (h : Held K G H a c) : ∃ o, H a = some o ∧ isOwn o = true := by
  cases c with
  | obj ks ds => obtain ⟨C, dx, fs, _, e, _⟩ := h; exact ⟨_, e, rfl⟩
  | lst ds => obtain ⟨xs, e, _⟩ := h; exact ⟨_, e, rfl⟩
  | dct kvs => obtain ⟨ps, e, _⟩ := h; exact ⟨_, e, rfl⟩
theorem Held.mono {K : PySem.W.Frag} {G G' H H' : Hp} {a : Addr} {c : Cn} (h : Held K G H a c) (g : Same G G') (e : ∀ o, H a = some o → H' a = some o) : Held K G' H' a c := by
  cases c with
  | obj ks ds => obtain ⟨C, dx, fs, k, q, z, r⟩ := h; exact ⟨C, dx, fs, k, e _ q, z, r.mono g⟩
  | lst ds => obtain ⟨xs, q, r⟩ := h; exact ⟨xs, e _ q, r.mono g⟩
  | dct kvs => obtain ⟨ps, q, z, r⟩ := h; exact ⟨ps, e _ q, z, r.mono g⟩
theorem Held.rep {K : PySem.W.Frag} {G G' H : Hp} {a : Addr} {c : Cn} {d : D} (h : Held K G H a c) (g : Same G G') (e : ∀ o, H a = some o → G' a = some o) (v : c.view = some d) : Rep K G' (.ref a) d := by
  cases c with
  | obj ks ds => obtain ⟨C, dx, fs, k, q, rfl, r⟩ := h; cases v; exact .obj k (e _ q) (r.mono g) rfl
  | lst ds => obtain ⟨xs, q, r⟩ := h; cases v; exact .lst (SqL.of (e _ q)) (r.mono g)
  | dct kvs => cases v
inductive Slots (K : PySem.W.Frag) (G H : Hp) : St → SEnv → List Addr → Prop
  | nil : Slots K G H [] [] []
  | no {v : Option V} {σ : St} {ρ : SEnv} {O : List Addr} : Slots K G H σ ρ O → Slots K G H (v :: σ) (.no :: ρ) O
  | sh {v : V} {d : D} {σ : St} {ρ : SEnv} {O : List Addr} : Rep K G v d → Slots K G H σ ρ O → Slots K G H (some v :: σ) (.sh d :: ρ) O
  | ow {a : Addr} {xs : List V} {ds : List D} {σ : St} {ρ : SEnv} {O : List Addr} : H a = some (.lst xs) → RepAll K G xs ds → Slots K G H σ ρ O → Slots K G H (some (.ref a) :: σ) (.ow ds :: ρ) (a :: O)
  | on {a : Addr} {ps : List Addr} {dss : List (List D)} {σ : St} {ρ : SEnv} {O : List Addr} : H a = some (.lst (ps.map V.ref)) → Inner K G H ps dss → Slots K G H σ ρ O → Slots K G H (some (.ref a) :: σ) (.on dss :: ρ) (a :: (ps ++ O))
  | tr {a : Addr} {c : Cn} {σ : St} {ρ : SEnv} {O : List Addr} : Held K G H a c → Slots K G H σ ρ O → Slots K G H (some (.ref a) :: σ) (.tr a c :: ρ) (a :: O)
section
variable {K : PySem.W.Frag} {G G' H H' : Hp} {σ : St} {ρ : SEnv} {O : List Addr}
theorem Slots.mem (s : Slots K G H σ ρ O) : ∀ a ∈ O, ∃ o, H a = some o ∧ isOwn o = true := by
  induction s with
  | nil => intro a h; cases h
  | no _ ih => exact ih
  | sh _ _ ih => exact ih
  | ow e _ _ ih =>
    intro b h
    rcases List.mem_cons.mp h with rfl | h
    · exact ⟨_, e, rfl⟩
    · exact ih b h
  | tr e _ ih =>
    intro b h
    rcases List.mem_cons.mp h with rfl | h
    · exact e.own
    · exact ih b h
  | on e i _ ih =>
    intro b h
    rcases List.mem_cons.mp h with rfl | h
    · exact ⟨_, e, rfl⟩
    · rcases List.mem_append.mp h with h | h
      · obtain ⟨xs, e⟩ := i.mem b h
        exact ⟨_, e, rfl⟩
      · exact ih b h
theorem Slots.mono (s : Slots K G H σ ρ O) (g : Same G G') (h : ∀ a ∈ O, ∀ o, H a = some o → H' a = some o) : Slots K G' H' σ ρ O := by
  induction s with
  | nil => exact .nil
  | no _ ih => exact .no (ih h)
  | sh r _ ih => exact .sh (r.mono g) (ih h)
  | ow e r _ ih => exact .ow (h _ List.mem_cons_self _ e) (r.mono g) (ih fun a ha => h a (List.mem_cons_of_mem _ ha))
  | tr e _ ih => exact .tr (e.mono g (h _ List.mem_cons_self)) (ih fun a ha => h a (List.mem_cons_of_mem _ ha))
  | on e i _ ih => exact .on (h _ List.mem_cons_self _ e) (i.mono g fun a ha => h a (List.mem_cons_of_mem _ (List.mem_append_left _ ha))) (ih fun a ha => h a (List.mem_cons_of_mem _ (List.mem_append_right _ ha)))
theorem Slots.mask (s : Slots K G H σ ρ O) : EnvR K G σ (masked ρ) := by
  induction s with
  | nil => intro i d h; cases h
  | no _ ih =>
    intro i d h
    cases i with
    | zero => cases h
    | succ i => exact ih i d h
  | sh r _ ih =>
    intro i d h
    cases i with
    | zero => cases h; exact ⟨_, rfl, r⟩
    | succ i => exact ih i d h
  | ow _ _ _ ih =>
    intro i d h
    cases i with
    | zero => cases h
    | succ i => exact ih i d h
  | on _ _ _ ih =>
    intro i d h
    cases i with
    | zero => cases h
    | succ i => exact ih i d h
  | tr _ _ ih =>
    intro i d h
    cases i with
    | zero => cases h
    | succ i => exact ih i d h
theorem Slots.full {G' : Hp} (s : Slots K G H σ ρ O) (g : Same G G') (h : ∀ a ∈ O, ∀ o, H a = some o → G' a = some o) : EnvR K G' σ (full ρ) := by
  induction s with
  | nil => intro i d h; cases h
  | no _ ih =>
    intro i d h'
    cases i with
    | zero => cases h'
    | succ i => exact ih h i d h'
  | sh r _ ih =>
    intro i d h'
    cases i with
    | zero => cases h'; exact ⟨_, rfl, r.mono g⟩
    | succ i => exact ih h i d h'
  | ow e r _ ih =>
    intro i d h'
    cases i with
    | zero => cases h'; exact ⟨_, rfl, .lst (SqL.of (h _ List.mem_cons_self _ e)) (r.mono g)⟩
    | succ i => exact ih (fun a ha => h a (List.mem_cons_of_mem _ ha)) i d h'
  | tr e _ ih =>
    intro i d h'
    cases i with
    | zero => exact ⟨_, rfl, e.rep g (h _ List.mem_cons_self) (Option.some.inj h')⟩
    | succ i => exact ih (fun a ha => h a (List.mem_cons_of_mem _ ha)) i d h'
  | on e inn _ ih =>
    intro i d h'
    cases i with
    | zero => cases h'; exact ⟨_, rfl, .lst (SqL.of (h _ List.mem_cons_self _ e)) (inn.full g fun a ha => h a (List.mem_cons_of_mem _ (List.mem_append_left _ ha)))⟩
    | succ i => exact ih (fun a ha => h a (List.mem_cons_of_mem _ (List.mem_append_right _ ha))) i d h'
theorem Slots.setSh {v : V} {d : D} (r : Rep K G v d) : ∀ {σ : St} {ρ : SEnv} {O : List Addr} (i : Nat), Slots K G H σ ρ O → ∃ O', O'.Sublist O ∧ Slots K G H (σ.set i (some v)) (ρ.set i (.sh d)) O'
  | _, _, _, _, .nil => ⟨_, .refl _, .nil⟩
  | _, _, _, 0, .no t => ⟨_, .refl _, .sh r t⟩
  | _, _, _, 0, .sh _ t => ⟨_, .refl _, .sh r t⟩
  | _, _, _, 0, .ow _ _ t => ⟨_, .cons _ (.refl _), .sh r t⟩
  | _, _, _, 0, .on _ _ t => ⟨_, .cons _ (List.sublist_append_right _ _), .sh r t⟩
  | _, _, _, 0, .tr _ t => ⟨_, .cons _ (.refl _), .sh r t⟩
  | _, _, _, i + 1, .no t => by obtain ⟨O', h, s⟩ := Slots.setSh r i t; exact ⟨O', h, .no s⟩
  | _, _, _, i + 1, .sh q t => by obtain ⟨O', h, s⟩ := Slots.setSh r i t; exact ⟨O', h, .sh q s⟩
  | _, _, _, i + 1, .ow e q t => by obtain ⟨O', h, s⟩ := Slots.setSh r i t; exact ⟨_, .cons₂ _ h, .ow e q s⟩
  | _, _, _, i + 1, .on e q t => by obtain ⟨O', h, s⟩ := Slots.setSh r i t; exact ⟨_, .cons₂ _ (List.Sublist.append_left h _), .on e q s⟩
  | _, _, _, i + 1, .tr e t => by obtain ⟨O', h, s⟩ := Slots.setSh r i t; exact ⟨_, .cons₂ _ h, .tr e s⟩
theorem Slots.setOw {a : Addr} {xs : List V} {ds : List D} (e : H a = some (.lst xs)) (r : RepAll K G xs ds) : ∀ {σ : St} {ρ : SEnv} {O : List Addr} (i : Nat), a ∉ O → O.Nodup → Slots K G H σ ρ O →
    ∃ O', (∀ b ∈ O', b = a ∨ b ∈ O) ∧ O'.Nodup ∧ Slots K G H (σ.set i (some (.ref a))) (ρ.set i (.ow ds)) O'
  | _, _, _, _, _, nd, .nil => ⟨[], (fun b h => by cases h), nd, .nil⟩
  | _, _, _, 0, na, nd, .no t => ⟨_, fun b h => List.mem_cons.mp h, List.nodup_cons.mpr ⟨na, nd⟩, .ow e r t⟩
  | _, _, _, 0, na, nd, .sh _ t => ⟨_, fun b h => List.mem_cons.mp h, List.nodup_cons.mpr ⟨na, nd⟩, .ow e r t⟩
  | _, _, _, 0, na, nd, .ow _ _ t => ⟨_, fun b h => (List.mem_cons.mp h).imp id (fun z => List.mem_cons_of_mem _ z), List.nodup_cons.mpr ⟨fun z => na (List.mem_cons_of_mem _ z), (List.nodup_cons.mp nd).2⟩, .ow e r t⟩
  | _, _, _, 0, na, nd, .on _ _ t => ⟨_, fun b h => (List.mem_cons.mp h).imp id (fun z => List.mem_cons_of_mem _ (List.mem_append_right _ z)), List.nodup_cons.mpr ⟨fun z => na (List.mem_cons_of_mem _ (List.mem_append_right _ z)), (List.nodup_append.mp (List.nodup_cons.mp nd).2).2.1⟩, .ow e r t⟩
  | _, _, _, 0, na, nd, .tr _ t => ⟨_, fun b h => (List.mem_cons.mp h).imp id (fun z => List.mem_cons_of_mem _ z), List.nodup_cons.mpr ⟨fun z => na (List.mem_cons_of_mem _ z), (List.nodup_cons.mp nd).2⟩, .ow e r t⟩
  | _, _, _, i + 1, na, nd, .tr q t => by
    have nd' := List.nodup_cons.mp nd
    obtain ⟨O', h, n, s⟩ := Slots.setOw e r i (fun z => na (List.mem_cons_of_mem _ z)) nd'.2 t
    refine ⟨_, fun b hb => ?_, List.nodup_cons.mpr ⟨fun z => ?_, n⟩, .tr q s⟩
    · rcases List.mem_cons.mp hb with rfl | hb
      · exact .inr List.mem_cons_self
      · exact (h b hb).imp id (fun z => List.mem_cons_of_mem _ z)
    · rcases h _ z with z | z
      · exact na (by rw [← z]; exact List.mem_cons_self)
      · exact nd'.1 z
  | _, _, _, i + 1, na, nd, .no t => by obtain ⟨O', h, n, s⟩ := Slots.setOw e r i na nd t; exact ⟨O', h, n, .no s⟩
  | _, _, _, i + 1, na, nd, .sh q t => by obtain ⟨O', h, n, s⟩ := Slots.setOw e r i na nd t; exact ⟨O', h, n, .sh q s⟩
  | _, _, _, i + 1, na, nd, .ow e' q t => by
    have nd' := List.nodup_cons.mp nd
    obtain ⟨O', h, n, s⟩ := Slots.setOw e r i (fun z => na (List.mem_cons_of_mem _ z)) nd'.2 t
    refine ⟨_, fun b hb => ?_, List.nodup_cons.mpr ⟨fun z => ?_, n⟩, .ow e' q s⟩
    · rcases List.mem_cons.mp hb with rfl | hb
      · exact .inr List.mem_cons_self
      · exact (h b hb).imp id (fun z => List.mem_cons_of_mem _ z)
    · rcases h _ z with z | z
      · exact na (by rw [← z]; exact List.mem_cons_self)
      · exact nd'.1 z
  | _, _, _, i + 1, na, nd, .on e' q t => by
    have nd' := List.nodup_cons.mp nd
    have nd2 := List.nodup_append.mp nd'.2
    obtain ⟨O', h, n, s⟩ := Slots.setOw e r i (fun z => na (List.mem_cons_of_mem _ (List.mem_append_right _ z))) nd2.2.1 t
    refine ⟨_, fun b hb => ?_, List.nodup_cons.mpr ⟨fun z => ?_, List.nodup_append.mpr ⟨nd2.1, n, fun x hx y hy hxy => ?_⟩⟩, .on e' q s⟩
    · rcases List.mem_cons.mp hb with rfl | hb
      · exact .inr List.mem_cons_self
      · rcases List.mem_append.mp hb with hb | hb
        · exact .inr (List.mem_cons_of_mem _ (List.mem_append_left _ hb))
        · exact (h b hb).imp id (fun z => List.mem_cons_of_mem _ (List.mem_append_right _ z))
    · rcases List.mem_append.mp z with z | z
      · exact nd'.1 (List.mem_append_left _ z)
      · rcases h _ z with z | z
        · exact na (by rw [← z]; exact List.mem_cons_self)
        · exact nd'.1 (List.mem_append_right _ z)
    · rcases h y hy with z | z
      · exact na (by rw [← z, ← hxy]; exact List.mem_cons_of_mem _ (List.mem_append_left _ hx))
      · exact nd2.2.2 x hx y z hxy
theorem Slots.setOn {a : Addr} {ps : List Addr} {dss : List (List D)} (e : H a = some (.lst (ps.map V.ref))) (r : Inner K G H ps dss) (hap : (a :: ps).Nodup) : ∀ {σ : St} {ρ : SEnv} {O : List Addr} (i : Nat), (∀ b ∈ a :: ps, b ∉ O) → O.Nodup → Slots K G H σ ρ O →
    ∃ O', (∀ b ∈ O', b ∈ a :: ps ∨ b ∈ O) ∧ O'.Nodup ∧ Slots K G H (σ.set i (some (.ref a))) (ρ.set i (.on dss)) O'
  | _, _, _, _, _, nd, .nil => ⟨[], (fun b h => by cases h), nd, .nil⟩
  | _, _, O, 0, na, nd, .no t => ⟨_, fun b h => List.mem_append.mp (show b ∈ (a :: ps) ++ O from h), (List.nodup_append.mpr ⟨hap, nd, fun x hx y hy z => na x hx (by rw [z]; exact hy)⟩ : ((a :: ps) ++ O).Nodup), .on e r t⟩
  | _, _, O, 0, na, nd, .sh _ t => ⟨_, fun b h => List.mem_append.mp (show b ∈ (a :: ps) ++ O from h), (List.nodup_append.mpr ⟨hap, nd, fun x hx y hy z => na x hx (by rw [z]; exact hy)⟩ : ((a :: ps) ++ O).Nodup), .on e r t⟩
  | _, _, _, 0, na, nd, .ow _ _ t => ⟨_, fun b h => (List.mem_append.mp (show b ∈ (a :: ps) ++ _ from h)).imp id (fun z => List.mem_cons_of_mem _ z), (List.nodup_append.mpr ⟨hap, (List.nodup_cons.mp nd).2, fun x hx y hy z => na x hx (by rw [z]; exact List.mem_cons_of_mem _ hy)⟩ : ((a :: ps) ++ _).Nodup), .on e r t⟩
  | _, _, _, 0, na, nd, .on _ _ t => ⟨_, fun b h => (List.mem_append.mp (show b ∈ (a :: ps) ++ _ from h)).imp id (fun z => List.mem_cons_of_mem _ (List.mem_append_right _ z)), (List.nodup_append.mpr ⟨hap, (List.nodup_append.mp (List.nodup_cons.mp nd).2).2.1, fun x hx y hy z => na x hx (by rw [z]; exact List.mem_cons_of_mem _ (List.mem_append_right _ hy))⟩ : ((a :: ps) ++ _).Nodup), .on e r t⟩
  | _, _, _, 0, na, nd, .tr _ t => ⟨_, fun b h => (List.mem_append.mp (show b ∈ (a :: ps) ++ _ from h)).imp id (fun z => List.mem_cons_of_mem _ z), (List.nodup_append.mpr ⟨hap, (List.nodup_cons.mp nd).2, fun x hx y hy z => na x hx (by rw [z]; exact List.mem_cons_of_mem _ hy)⟩ : ((a :: ps) ++ _).Nodup), .on e r t⟩
  | _, _, _, i + 1, na, nd, .tr q t => by
    have nd' := List.nodup_cons.mp nd
    obtain ⟨O', h, n, s⟩ := Slots.setOn e r hap i (fun b hb z => na b hb (List.mem_cons_of_mem _ z)) nd'.2 t
    refine ⟨_, fun b hb => ?_, List.nodup_cons.mpr ⟨fun z => ?_, n⟩, .tr q s⟩
    · rcases List.mem_cons.mp hb with rfl | hb
      · exact .inr List.mem_cons_self
      · exact (h b hb).imp id (fun z => List.mem_cons_of_mem _ z)
    · rcases h _ z with z | z
      · exact na _ z List.mem_cons_self
      · exact nd'.1 z
  | _, _, _, i + 1, na, nd, .no t => by obtain ⟨O', h, n, s⟩ := Slots.setOn e r hap i na nd t; exact ⟨O', h, n, .no s⟩
  | _, _, _, i + 1, na, nd, .sh q t => by obtain ⟨O', h, n, s⟩ := Slots.setOn e r hap i na nd t; exact ⟨O', h, n, .sh q s⟩
  | _, _, _, i + 1, na, nd, .ow e' q t => by
    have nd' := List.nodup_cons.mp nd
    obtain ⟨O', h, n, s⟩ := Slots.setOn e r hap i (fun b hb z => na b hb (List.mem_cons_of_mem _ z)) nd'.2 t
    refine ⟨_, fun b hb => ?_, List.nodup_cons.mpr ⟨fun z => ?_, n⟩, .ow e' q s⟩
    · rcases List.mem_cons.mp hb with rfl | hb
      · exact .inr List.mem_cons_self
      · exact (h b hb).imp id (fun z => List.mem_cons_of_mem _ z)
    · rcases h _ z with z | z
      · exact na _ z List.mem_cons_self
      · exact nd'.1 z
  | _, _, _, i + 1, na, nd, .on e' q t => by
    have nd' := List.nodup_cons.mp nd
    have nd2 := List.nodup_append.mp nd'.2
    obtain ⟨O', h, n, s⟩ := Slots.setOn e r hap i (fun b hb z => na b hb (List.mem_cons_of_mem _ (List.mem_append_right _ z))) nd2.2.1 t
    refine ⟨_, fun b hb => ?_, List.nodup_cons.mpr ⟨fun z => ?_, List.nodup_append.mpr ⟨nd2.1, n, fun x hx y hy hxy => ?_⟩⟩, .on e' q s⟩
    · rcases List.mem_cons.mp hb with rfl | hb
      · exact .inr List.mem_cons_self
      · rcases List.mem_append.mp hb with hb | hb
        · exact .inr (List.mem_cons_of_mem _ (List.mem_append_left _ hb))
        · exact (h b hb).imp id (fun z => List.mem_cons_of_mem _ (List.mem_append_right _ z))
    · rcases List.mem_append.mp z with z | z
      · exact nd'.1 (List.mem_append_left _ z)
      · rcases h _ z with z | z
        · exact na _ z List.mem_cons_self
        · exact nd'.1 (List.mem_append_right _ z)
    · rcases h y hy with z | z
      · exact na y z (by rw [← hxy]; exact List.mem_cons_of_mem _ (List.mem_append_left _ hx))
      · exact nd2.2.2 x hx y z hxy
theorem Slots.setTr {a : Addr} {c : Cn} (e : Held K G H a c) : ∀ {σ : St} {ρ : SEnv} {O : List Addr} (i : Nat), a ∉ O → O.Nodup → Slots K G H σ ρ O →
    ∃ O', (∀ b ∈ O', b = a ∨ b ∈ O) ∧ O'.Nodup ∧ Slots K G H (σ.set i (some (.ref a))) (ρ.set i (.tr a c)) O'
  | _, _, _, _, _, nd, .nil => ⟨[], (fun b h => by cases h), nd, .nil⟩
  | _, _, _, 0, na, nd, .no t => ⟨_, fun b h => List.mem_cons.mp h, List.nodup_cons.mpr ⟨na, nd⟩, .tr e t⟩
  | _, _, _, 0, na, nd, .sh _ t => ⟨_, fun b h => List.mem_cons.mp h, List.nodup_cons.mpr ⟨na, nd⟩, .tr e t⟩
  | _, _, _, 0, na, nd, .ow _ _ t => ⟨_, fun b h => (List.mem_cons.mp h).imp id (fun z => List.mem_cons_of_mem _ z), List.nodup_cons.mpr ⟨fun z => na (List.mem_cons_of_mem _ z), (List.nodup_cons.mp nd).2⟩, .tr e t⟩
  | _, _, _, 0, na, nd, .tr _ t => ⟨_, fun b h => (List.mem_cons.mp h).imp id (fun z => List.mem_cons_of_mem _ z), List.nodup_cons.mpr ⟨fun z => na (List.mem_cons_of_mem _ z), (List.nodup_cons.mp nd).2⟩, .tr e t⟩
  | _, _, _, 0, na, nd, .on _ _ t => ⟨_, fun b h => (List.mem_cons.mp h).imp id (fun z => List.mem_cons_of_mem _ (List.mem_append_right _ z)), List.nodup_cons.mpr ⟨fun z => na (List.mem_cons_of_mem _ (List.mem_append_right _ z)), (List.nodup_append.mp (List.nodup_cons.mp nd).2).2.1⟩, .tr e t⟩
  | _, _, _, i + 1, na, nd, .no t => by obtain ⟨O', h, n, s⟩ := Slots.setTr e i na nd t; exact ⟨O', h, n, .no s⟩
  | _, _, _, i + 1, na, nd, .sh q t => by obtain ⟨O', h, n, s⟩ := Slots.setTr e i na nd t; exact ⟨O', h, n, .sh q s⟩
  | _, _, _, i + 1, na, nd, .ow e' q t => by
    have nd' := List.nodup_cons.mp nd
    obtain ⟨O', h, n, s⟩ := Slots.setTr e i (fun z => na (List.mem_cons_of_mem _ z)) nd'.2 t
    refine ⟨_, fun b hb => ?_, List.nodup_cons.mpr ⟨fun z => ?_, n⟩, .ow e' q s⟩
    · rcases List.mem_cons.mp hb with rfl | hb
      · exact .inr List.mem_cons_self
      · exact (h b hb).imp id (fun z => List.mem_cons_of_mem _ z)
    · rcases h _ z with z | z
      · exact na (by rw [← z]; exact List.mem_cons_self)
      · exact nd'.1 z
  | _, _, _, i + 1, na, nd, .tr q t => by
    have nd' := List.nodup_cons.mp nd
    obtain ⟨O', h, n, s⟩ := Slots.setTr e i (fun z => na (List.mem_cons_of_mem _ z)) nd'.2 t
    refine ⟨_, fun b hb => ?_, List.nodup_cons.mpr ⟨fun z => ?_, n⟩, .tr q s⟩
    · rcases List.mem_cons.mp hb with rfl | hb
      · exact .inr List.mem_cons_self
      · exact (h b hb).imp id (fun z => List.mem_cons_of_mem _ z)
    · rcases h _ z with z | z
      · exact na (by rw [← z]; exact List.mem_cons_self)
      · exact nd'.1 z
  | _, _, _, i + 1, na, nd, .on e' q t => by
    have nd' := List.nodup_cons.mp nd
    have nd2 := List.nodup_append.mp nd'.2
    obtain ⟨O', h, n, s⟩ := Slots.setTr e i (fun z => na (List.mem_cons_of_mem _ (List.mem_append_right _ z))) nd2.2.1 t
    refine ⟨_, fun b hb => ?_, List.nodup_cons.mpr ⟨fun z => ?_, List.nodup_append.mpr ⟨nd2.1, n, fun x hx y hy hxy => ?_⟩⟩, .on e' q s⟩
    · rcases List.mem_cons.mp hb with rfl | hb
      · exact .inr List.mem_cons_self
      · rcases List.mem_append.mp hb with hb | hb
        · exact .inr (List.mem_cons_of_mem _ (List.mem_append_left _ hb))
        · exact (h b hb).imp id (fun z => List.mem_cons_of_mem _ (List.mem_append_right _ z))
    · rcases List.mem_append.mp z with z | z
      · exact nd'.1 (List.mem_append_left _ z)
      · rcases h _ z with z | z
        · exact na (by rw [← z]; exact List.mem_cons_self)
        · exact nd'.1 (List.mem_append_right _ z)
    · rcases h y hy with z | z
      · exact na (by rw [← z, ← hxy]; exact List.mem_cons_of_mem _ (List.mem_append_left _ hx))
      · exact nd2.2.2 x hx y z hxy
theorem Slots.getTr : ∀ {σ : St} {ρ : SEnv} {O : List Addr} {i : Nat} {a : Addr} {c : Cn}, Slots K G H σ ρ O → ρ[i]? = some (.tr a c) → σ[i]? = some (some (.ref a)) ∧ a ∈ O ∧ Held K G H a c
  | _, _, _, _, _, _, .nil, h => by cases h
  | _, _, _, 0, _, _, .no t, h => by cases h
  | _, _, _, 0, _, _, .sh _ t, h => by cases h
  | _, _, _, 0, _, _, .ow _ _ t, h => by cases h
  | _, _, _, 0, _, _, .on _ _ t, h => by cases h
  | _, _, _, 0, _, _, .tr e t, h => by cases h; exact ⟨rfl, List.mem_cons_self, e⟩
  | _, _, _, i + 1, _, _, .no t, h => Slots.getTr (i := i) t h
  | _, _, _, i + 1, _, _, .sh _ t, h => Slots.getTr (i := i) t h
  | _, _, _, i + 1, _, _, .ow _ _ t, h => by
    obtain ⟨h1, h2, h3⟩ := Slots.getTr (i := i) t h
    exact ⟨h1, List.mem_cons_of_mem _ h2, h3⟩
  | _, _, _, i + 1, _, _, .tr _ t, h => by
    obtain ⟨h1, h2, h3⟩ := Slots.getTr (i := i) t h
    exact ⟨h1, List.mem_cons_of_mem _ h2, h3⟩
  | _, _, _, i + 1, _, _, .on _ _ t, h => by
    obtain ⟨h1, h2, h3⟩ := Slots.getTr (i := i) t h
    exact ⟨h1, List.mem_cons_of_mem _ (List.mem_append_right _ h2), h3⟩
theorem Slots.writeTr {a : Addr} {o : HO} {c' : Cn} (e' : Held K G (upd H a o) a c') : ∀ {σ : St} {ρ : SEnv} {O : List Addr} {i : Nat} {c : Cn}, O.Nodup → Slots K G H σ ρ O → ρ[i]? = some (.tr a c) → Slots K G (upd H a o) σ (ρ.set i (.tr a c')) O
  | _, _, _, _, _, _, .nil, h => by cases h
  | _, _, _, 0, _, _, .no t, h => by cases h
  | _, _, _, 0, _, _, .sh _ t, h => by cases h
  | _, _, _, 0, _, _, .ow _ _ t, h => by cases h
  | _, _, _, 0, _, _, .on _ _ t, h => by cases h
  | _, _, _, 0, _, nd, .tr e t, h => by
    cases h
    have nd' := List.nodup_cons.mp nd
    exact .tr e' (t.mono (Same.refl _) fun b hb o e => by rw [upd_ne fun z => nd'.1 (by rw [← z]; exact hb)]; exact e)
  | _, _, _, i + 1, _, nd, .no t, h => .no (Slots.writeTr (i := i) e' nd t h)
  | _, _, _, i + 1, _, nd, .sh q t, h => .sh q (Slots.writeTr (i := i) e' nd t h)
  | _, _, _, i + 1, _, nd, .ow e q t, h => by
    have nd' := List.nodup_cons.mp nd
    obtain ⟨_, h4, _⟩ := Slots.getTr (i := i) t h
    exact .ow (by rw [upd_ne fun z => nd'.1 (by rw [z]; exact h4)]; exact e) q (Slots.writeTr (i := i) e' nd'.2 t h)
  | _, _, _, i + 1, _, nd, .tr q t, h => by
    have nd' := List.nodup_cons.mp nd
    obtain ⟨_, h4, _⟩ := Slots.getTr (i := i) t h
    exact .tr (q.mono (Same.refl _) fun o e => by rw [upd_ne fun z => nd'.1 (by rw [z]; exact h4)]; exact e) (Slots.writeTr (i := i) e' nd'.2 t h)
  | _, _, _, i + 1, _, nd, .on e q t, h => by
    have nd' := List.nodup_cons.mp nd
    have nd2 := List.nodup_append.mp nd'.2
    obtain ⟨_, h4, _⟩ := Slots.getTr (i := i) t h
    exact .on (by rw [upd_ne fun z => nd'.1 (by rw [z]; exact List.mem_append_right _ h4)]; exact e) (q.mono (Same.refl _) fun b hb o e => by rw [upd_ne fun z => nd2.2.2 b hb a (by first | exact h4 | (rw [← z]; exact h4)) (by first | exact z | rfl)]; exact e) (Slots.writeTr (i := i) e' nd2.2.1 t h)
theorem Slots.getOw : ∀ {σ : St} {ρ : SEnv} {O : List Addr} {i : Nat} {ds : List D}, Slots K G H σ ρ O → ρ[i]? = some (.ow ds) → ∃ a xs, σ[i]? = some (some (.ref a)) ∧ a ∈ O ∧ H a = some (.lst xs) ∧ RepAll K G xs ds
  | _, _, _, _, _, .nil, h => by cases h
  | _, _, _, 0, _, .no t, h => by cases h
  | _, _, _, 0, _, .sh _ t, h => by cases h
  | _, _, _, 0, _, .ow e r t, h => by cases h; exact ⟨_, _, rfl, List.mem_cons_self, e, r⟩
  | _, _, _, i + 1, _, .no t, h => Slots.getOw (i := i) t h
  | _, _, _, i + 1, _, .sh _ t, h => Slots.getOw (i := i) t h
  | _, _, _, i + 1, _, .ow _ _ t, h => by
    obtain ⟨a, xs, h1, h2, h3⟩ := Slots.getOw (i := i) t h
    exact ⟨a, xs, h1, List.mem_cons_of_mem _ h2, h3⟩
  | _, _, _, 0, _, .on _ _ t, h => by cases h
  | _, _, _, 0, _, .tr _ t, h => by cases h
  | _, _, _, i + 1, _, .tr _ t, h => by
    obtain ⟨a, xs, h1, h2, h3⟩ := Slots.getOw (i := i) t h
    exact ⟨a, xs, h1, List.mem_cons_of_mem _ h2, h3⟩
  | _, _, _, i + 1, _, .on _ _ t, h => by
    obtain ⟨a, xs, h1, h2, h3⟩ := Slots.getOw (i := i) t h
    exact ⟨a, xs, h1, List.mem_cons_of_mem _ (List.mem_append_right _ h2), h3⟩
theorem Slots.write {a : Addr} {ys : List V} {es : List D} (r : RepAll K G ys es) : ∀ {σ : St} {ρ : SEnv} {O : List Addr} {i : Nat} {ds : List D}, O.Nodup → Slots K G H σ ρ O → ρ[i]? = some (.ow ds) → σ[i]? = some (some (.ref a)) →
    Slots K G (upd H a (.lst ys)) σ (ρ.set i (.ow es)) O
  | _, _, _, _, _, _, .nil, h, _ => by cases h
  | _, _, _, 0, _, _, .no t, h, _ => by cases h
  | _, _, _, 0, _, _, .sh _ t, h, _ => by cases h
  | _, _, _, 0, _, nd, .ow e _ t, h, h2 => by
    cases h2
    have nd' := List.nodup_cons.mp nd
    exact .ow upd_same r (t.mono (Same.refl _) fun b hb o e => by rw [upd_ne fun z => nd'.1 (by rw [← z]; exact hb)]; exact e)
  | _, _, _, i + 1, _, nd, .no t, h, h2 => .no (Slots.write (i := i) r nd t h h2)
  | _, _, _, i + 1, _, nd, .sh q t, h, h2 => .sh q (Slots.write (i := i) r nd t h h2)
  | _, _, _, i + 1, _, nd, .ow e q t, h, h2 => by
    have nd' := List.nodup_cons.mp nd
    obtain ⟨b, xs, h3, h4, _⟩ := Slots.getOw (i := i) t h
    have h2' : _ = some (some (V.ref a)) := h2
    rw [List.getElem?_cons_succ, h3] at h2'
    cases h2'
    exact .ow (by rw [upd_ne fun z => nd'.1 (by rw [z]; exact h4)]; exact e) q (Slots.write (i := i) r nd'.2 t h h2)
  | _, _, _, 0, _, _, .on _ _ t, h, _ => by cases h
  | _, _, _, 0, _, _, .tr _ t, h, _ => by cases h
  | _, _, _, i + 1, _, nd, .tr q t, h, h2 => by
    have nd' := List.nodup_cons.mp nd
    obtain ⟨b, xs, h3, h4, _⟩ := Slots.getOw (i := i) t h
    have h2' : _ = some (some (V.ref a)) := h2
    rw [List.getElem?_cons_succ, h3] at h2'
    cases h2'
    exact .tr (q.mono (Same.refl _) fun o e => by rw [upd_ne fun z => nd'.1 (by rw [z]; exact h4)]; exact e) (Slots.write (i := i) r nd'.2 t h h2)
  | _, _, _, i + 1, _, nd, .on e q t, h, h2 => by
    have nd' := List.nodup_cons.mp nd
    have nd2 := List.nodup_append.mp nd'.2
    obtain ⟨b, xs, h3, h4, _⟩ := Slots.getOw (i := i) t h
    have h2' : _ = some (some (V.ref a)) := h2
    rw [List.getElem?_cons_succ, h3] at h2'
    cases h2'
    exact .on (by rw [upd_ne fun z => nd'.1 (by rw [z]; exact List.mem_append_right _ h4)]; exact e) (q.mono (Same.refl _) fun b hb o e => by rw [upd_ne fun z => nd2.2.2 b hb a (by first | exact h4 | (rw [← z]; exact h4)) (by first | exact z | rfl)]; exact e) (Slots.write (i := i) r nd2.2.1 t h h2)
end
structure StR (K : PySem.W.Frag) (H0 : Hp) (O0 : List Addr) (G : Hp) (σ : St) (H : Hp) (ρ : SEnv) : Prop where
  ex : ∃ O, Same H0 H ∧ (∀ a ∈ O, H0 a = none) ∧ O.Nodup ∧ Same G (hid (O0 ++ O) H) ∧ Slots K (hid (O0 ++ O) H) H σ ρ O
structure StV (K : PySem.W.Frag) (H0 : Hp) (O0 : List Addr) (G : Hp) (σ : St) (H : Hp) (ρ : SEnv) (v : V) (s : Sl) : Prop where
  ex : ∃ O P, Same H0 H ∧ (∀ a ∈ O, H0 a = none) ∧ O.Nodup ∧ Same G (hid (O0 ++ (P ++ O)) H) ∧ Slots K (hid (O0 ++ (P ++ O)) H) H σ ρ O ∧
    match s with
    | .no => False
    | .sh d => P = [] ∧ Rep K (hid (O0 ++ (P ++ O)) H) v d
    | .ow ds => ∃ a xs, P = [a] ∧ v = .ref a ∧ a ∉ O ∧ H0 a = none ∧ H a = some (.lst xs) ∧ RepAll K (hid (O0 ++ (P ++ O)) H) xs ds
    | .on dss => ∃ a ps, P = a :: ps ∧ v = .ref a ∧ (a :: ps).Nodup ∧ (∀ b ∈ a :: ps, b ∉ O ∧ H0 b = none) ∧ H a = some (.lst (ps.map V.ref)) ∧ Inner K (hid (O0 ++ (P ++ O)) H) H ps dss
    | .tr a c => P = [a] ∧ v = .ref a ∧ a ∉ O ∧ H0 a = none ∧ Held K (hid (O0 ++ (P ++ O)) H) H a c
section
variable {K : PySem.W.Frag} {H0 : Hp} {O0 : List Addr} {G : Hp} {σ : St} {H H' : Hp} {ρ : SEnv}
theorem okAll (ok : OkO O0 H0) {O : List Addr} (s0 : Same H0 H) (sl : Slots K G H σ ρ O) : OkO (O0 ++ O) H := fun a ha => by
  rcases List.mem_append.mp ha with h | h
  · exact (ok.mono s0) a h
  · obtain ⟨o, e, _⟩ := sl.mem a h
    exact ⟨_, e⟩
theorem StR.grow (t : StR K H0 O0 G σ H ρ) (s : Same H H') : StR K H0 O0 G σ H' ρ := by
  obtain ⟨O, s0, n, nd, g, sl⟩ := t.ex
  exact ⟨O, s0.trans s, n, nd, g.trans (hid_same s), sl.mono (hid_same s) fun a _ o e => s a o e⟩
theorem StV.grow {v : V} {d : D} (t : StV K H0 O0 G σ H ρ v (.sh d)) (s : Same H H') : StV K H0 O0 G σ H' ρ v (.sh d) := by
  obtain ⟨O, P, s0, n, nd, g, sl, hp, r⟩ := t.ex
  exact ⟨O, P, s0.trans s, n, nd, g.trans (hid_same s), sl.mono (hid_same s) fun a _ o e => s a o e, hp, r.hid s⟩
theorem StV.str {v : V} {d : D} (t : StV K H0 O0 G σ H ρ v (.sh d)) : StR K H0 O0 G σ H ρ := by
  obtain ⟨O, P, s0, n, nd, g, sl, hp, r⟩ := t.ex
  subst hp
  exact ⟨O, s0, n, nd, g, sl⟩
theorem StV.set {v : V} {s : Sl} (t : StV K H0 O0 G σ H ρ v s) (i : Nat) : StR K H0 O0 G (σ.set i (some v)) H (ρ.set i s) := by
  obtain ⟨O, P, s0, n, nd, g, sl, h⟩ := t.ex
  cases s with
  | no => exact h.elim
  | sh d =>
    obtain ⟨rfl, r⟩ := h
    obtain ⟨O', hs, sl'⟩ := sl.setSh r i
    have sub : ∀ b, b ∈ O0 ++ O' → b ∈ O0 ++ ([] ++ O) := fun b hb => (List.mem_append.mp hb).elim (fun z => List.mem_append_left _ z) fun z => List.mem_append_right _ (hs.subset z)
    exact ⟨O', s0, fun a ha => n a (hs.subset ha), hs.nodup nd, g.trans (hid_sub sub), sl'.mono (hid_sub sub) fun _ _ _ e => e⟩
  | ow ds =>
    obtain ⟨a, xs, rfl, rfl, na, h0, e, r⟩ := h
    obtain ⟨O', hs, nd', sl'⟩ := sl.setOw e r i na nd
    have sub : ∀ b, b ∈ O0 ++ O' → b ∈ O0 ++ ([a] ++ O) := fun b hb => (List.mem_append.mp hb).elim (fun z => List.mem_append_left _ z) fun z => List.mem_append_right _ (by
      rcases hs b z with rfl | z
      · simp
      · simp [z])
    refine ⟨O', s0, fun b hb => ?_, nd', g.trans (hid_sub sub), sl'.mono (hid_sub sub) fun _ _ _ e => e⟩
    rcases hs b hb with rfl | z
    · exact h0
    · exact n b z
  | on dss =>
    obtain ⟨a, ps, rfl, rfl, nda, na, e, r⟩ := h
    obtain ⟨O', hs, nd', sl'⟩ := sl.setOn e r nda i (fun b hb => (na b hb).1) nd
    have sub : ∀ b, b ∈ O0 ++ O' → b ∈ O0 ++ ((a :: ps) ++ O) := fun b hb => (List.mem_append.mp hb).elim (fun z => List.mem_append_left _ z) fun z => List.mem_append_right _ (by
      rcases hs b z with z | z
      · exact List.mem_append_left _ z
      · exact List.mem_append_right _ z)
    refine ⟨O', s0, fun b hb => ?_, nd', g.trans (hid_sub sub), sl'.mono (hid_sub sub) fun _ _ _ e => e⟩
    rcases hs b hb with z | z
    · exact (na b z).2
    · exact n b z
  | tr a c =>
    obtain ⟨rfl, rfl, na, h0, r⟩ := h
    obtain ⟨O', hs, nd', sl'⟩ := sl.setTr r i na nd
    have sub : ∀ b, b ∈ O0 ++ O' → b ∈ O0 ++ ([a] ++ O) := fun b hb => (List.mem_append.mp hb).elim (fun z => List.mem_append_left _ z) fun z => List.mem_append_right _ (by
      rcases hs b z with rfl | z
      · simp
      · simp [z])
    refine ⟨O', s0, fun b hb => ?_, nd', g.trans (hid_sub sub), sl'.mono (hid_sub sub) fun _ _ _ e => e⟩
    rcases hs b hb with rfl | z
    · exact h0
    · exact n b z
end
inductive Out where
  | nx (ρ : SEnv)
  | rt (d : D)
  | rl (ds : List D)
  | rn (dss : List (List D))
  | rp (ds : List D) (d : D)
  | ro (d : D) (ρ : SEnv)
  | bk (ρ : SEnv)
  | ct (ρ : SEnv)
def Post (K : PySem.W.Frag) (H0 : Hp) (O0 : List Addr) (G : Hp) (E : Ends) : Out → Prop
  | .nx ρ => ∀ σ H, StR K H0 O0 G σ H ρ → E.nx σ H
  | .rt d => ∀ v H', Same H0 H' → Rep K (hid O0 H') v d → E.rt v H'
  | .rl ds => ∀ a xs H', Same H0 H' → H0 a = none → H' a = some (.lst xs) → RepAll K (hid (a :: O0) H') xs ds → E.rt (.ref a) H'
  | .rn dss => ∀ a ps H', Same H0 H' → (a :: ps).Nodup → (∀ b ∈ a :: ps, H0 b = none) → H' a = some (.lst (ps.map V.ref)) → Inner K (hid ((a :: ps) ++ O0) H') H' ps dss → E.rt (.ref a) H'
  | .rp ds d => ∀ p a xs v H', Same H0 H' → H0 a = none → H0 p = none → H' a = some (.lst xs) → H' p = some (.tup [.ref a, v]) → RepAll K (hid (a :: O0) H') xs ds → Rep K (hid (a :: O0) H') v d → E.rt (.ref p) H'
  | .ro d ρ => ∀ v σ H', StV K H0 O0 (fun _ => none) σ H' ρ v (.sh d) → E.rt v H'
  | .bk ρ => ∀ σ H, StR K H0 O0 G σ H ρ → E.bk σ H
  | .ct ρ => ∀ σ H, StR K H0 O0 G σ H ρ → E.ct σ H
abbrev PSt := SEnv → Option Out
def PuS (K : PySem.W.Frag) (ts : TS) (F : PSt) : Prop := ∀ (H0 : Hp) (O0 : List Addr) (G : Hp) (σ : St) (H : Hp) (ρ : SEnv) (o : Out) (E : Ends), OkO O0 H0 → StR K H0 O0 G σ H ρ → F ρ = some o → Post K H0 O0 G E o → ts E σ H
def PuV (K : PySem.W.Frag) (te : TE) (vf : SEnv → Option Sl) : Prop := ∀ (H0 : Hp) (O0 : List Addr) (G : Hp) (σ : St) (H : Hp) (ρ : SEnv) (s : Sl) (Q : VK), OkO O0 H0 → StR K H0 O0 G σ H ρ → vf ρ = some s →
  (∀ v H', Same H H' → StV K H0 O0 G σ H' ρ v s → Q v H') → te σ H Q
structure JS (X : Cx) (K : PySem.W.Frag) (st : Stmt) (ts : TS) (F : PSt) : Prop where
  pe : PS X st ts
  pu : PuS K ts F
structure JSs (X : Cx) (K : PySem.W.Frag) (st : List Stmt) (ts : TS) (F : PSt) : Prop where
  pe : PSs X st ts
  pu : PuS K ts F
mutual
def flatD : D → Bool
  | .list _ => false
  | .dict _ => false
  | .tuple ds => flatAll ds
  | _ => true
def flatAll : List D → Bool
  | [] => true
  | d :: ds => flatD d && flatAll ds
end
section
variable {K : PySem.W.Frag} {O0 O : List Addr} {H : Hp}
mutual
theorem flat_rep (h : ∀ a ∈ O, ∃ o, H a = some o ∧ isOwn o = true) : ∀ {v : V} {d : D}, Rep K (hid O0 H) v d → flatD d = true → Rep K (hid (O0 ++ O) H) v d
  | _, _, .non, _ => .non
  | _, _, .bl b, _ => .bl b
  | _, _, .int i, _ => .int i
  | _, _, .str x, _ => .str x
  | _, _, .lst _ _, f => by simp [flatD] at f
  | _, _, .tup (a := a) q r, f => by
    have hr := flat_reps h r (by simpa [flatD] using f)
    refine .tup ?_ hr
    rcases q with (q | ⟨o, q⟩) | q
    · obtain ⟨n, q⟩ := hid_some q
      have na : a ∉ O := fun z => by
        obtain ⟨_, e, e2⟩ := h a z
        rw [q] at e
        cases e
        cases e2
      exact .inl (.inl (by rw [hid_out (by simp [n, na])]; exact q))
    · obtain ⟨n, q⟩ := hid_some q
      have na : a ∉ O := fun z => by
        obtain ⟨_, e, e2⟩ := h a z
        rw [q] at e
        cases e
        cases e2
      exact .inl (.inr ⟨o, by rw [hid_out (by simp [n, na])]; exact q⟩)
    · exact .inr q
theorem flat_reps (h : ∀ a ∈ O, ∃ o, H a = some o ∧ isOwn o = true) : ∀ {vs : List V} {ds : List D}, RepAll K (hid O0 H) vs ds → flatAll ds = true → RepAll K (hid (O0 ++ O) H) vs ds
  | _, _, .nil, _ => .nil
  | _, _, .cons r t, f => by
    have f' := Bool.and_eq_true_iff.mp (show (flatD _ && flatAll _) = true from f)
    exact .cons (flat_rep h r f'.1) (flat_reps h t f'.2)
end
end
def vF (f : PF) : SEnv → Option Sl := fun ρ => (f (full ρ)).bind fun d => if flatD d = true then some (.sh d) else none
def vS (f : PF) : SEnv → Option Sl := fun ρ => (f (masked ρ)).bind fun d => some (.sh d)
def vL (f : PAs) : SEnv → Option Sl := fun ρ => (f (masked ρ)).bind fun ds => some (.ow ds)
def vLF (f : PAs) : SEnv → Option Sl := fun ρ => (f (full ρ)).bind fun ds => if flatAll ds = true then some (.ow ds) else none
section
variable {K : PySem.W.Frag} {te : TE} {f : PF} {fl : PAs}
theorem StR.envF {H0 : Hp} {O0 : List Addr} {G : Hp} {σ : St} {H : Hp} {ρ : SEnv} (ok : OkO O0 H0) (t : StR K H0 O0 G σ H ρ) : OkO O0 H ∧ EnvR K (hid O0 H) σ (full ρ) := by
  obtain ⟨O, s0, n, nd, g, sl⟩ := t.ex
  refine ⟨ok.mono s0, sl.full (hid_sub fun b hb => List.mem_append_left _ hb) fun a ha o e => ?_⟩
  rw [hid_out (ok.fresh (n a ha))]
  exact e
theorem pv_S (h : PuE K te f) : PuV K te (vS f) := by
  intro H0 O0 G σ H ρ s Q ok t hf q
  obtain ⟨d, e1, hf⟩ := bind_some' hf
  cases hf
  obtain ⟨O, s0, n, nd, g, sl⟩ := t.ex
  refine h (O0 ++ O) σ H (masked ρ) d Q (okAll ok s0 sl) sl.mask e1 fun v H' s' r => q v H' s' ⟨O, [], s0.trans s', n, nd, g.trans (hid_same s'), sl.mono (hid_same s') fun a _ o e => s' a o e, rfl, r⟩
theorem hid_shift {O0 O : List Addr} {a : Addr} {H : Hp} : hid (a :: (O0 ++ O)) H = hid (O0 ++ ([a] ++ O)) H := by
  funext b
  by_cases h : b ∈ a :: (O0 ++ O)
  · rw [hid_in h, hid_in (by simp at h ⊢; rcases h with h | h | h <;> simp [h])]
  · rw [hid_out h, hid_out (by simp at h ⊢; exact ⟨h.2.1, h.1, h.2.2⟩)]
theorem pv_L (h : PuL K te fl) : PuV K te (vL fl) := by
  intro H0 O0 G σ H ρ s Q ok t hf q
  obtain ⟨d, e1, hf⟩ := bind_some' hf
  cases hf
  obtain ⟨O, s0, n, nd, g, sl⟩ := t.ex
  have okA := okAll ok s0 sl
  refine h (O0 ++ O) σ H (masked ρ) d Q okA sl.mask e1 fun a xs H' s' hn ha r => ?_
  have na : a ∉ O := fun z => okA.fresh hn (List.mem_append_right _ z)
  have big : Same (hid (O0 ++ O) H) (hid (O0 ++ ([a] ++ O)) H') := fun b o e => by
    obtain ⟨n1, e⟩ := hid_some e
    have nb : b ≠ a := ne_of_none e hn
    rw [hid_out (by simp at n1 ⊢; exact ⟨n1.1, nb, n1.2⟩)]
    exact s' b o e
  refine q (.ref a) H' s' ⟨O, [a], s0.trans s', n, nd, g.trans big, sl.mono big fun b _ o e => s' b o e, a, xs, rfl, rfl, na, s0.free hn, ha, ?_⟩
  rw [← hid_shift]
  exact r
theorem StR.evalF {H0 : Hp} {O0 : List Addr} {G : Hp} {σ : St} {H : Hp} {ρ : SEnv} {d : D} {Q : VK} (h : PuE K te f) (ok : OkO O0 H0) (t : StR K H0 O0 G σ H ρ) (e1 : f (L2.full ρ) = some d)
    (q : ∀ v H', Same H H' → StR K H0 O0 G σ H' ρ → Rep K (hid O0 H') v d → Q v H') : te σ H Q := by
  have ⟨o1, e2⟩ := t.envF ok
  exact h O0 σ H (L2.full ρ) d Q o1 e2 e1 fun v H' s' r => q v H' s' (t.grow s') r
theorem StR.same {H0 : Hp} {O0 : List Addr} {G : Hp} {σ : St} {H : Hp} {ρ : SEnv} (t : StR K H0 O0 G σ H ρ) : Same H0 H := by
  obtain ⟨O, s0, _⟩ := t.ex
  exact s0
end
def pNx : PSt := fun ρ => some (.nx ρ)
def pSq (F F' : PSt) : PSt := fun ρ => (F ρ).bind fun o => match o with
  | .nx ρ' => F' ρ'
  | .rt d => some (.rt d)
  | .rl d => some (.rl d)
  | .rn d => some (.rn d)
  | .rp d e => some (.rp d e)
  | .ro d e => some (.ro d e)
  | .bk ρ' => some (.bk ρ')
  | .ct ρ' => some (.ct ρ')
def pSet (i : Nat) (vf : SEnv → Option Sl) : PSt := fun ρ => (vf ρ).bind fun s => some (.nx (ρ.set i s))
def pDrop (f : PF) : PSt := fun ρ => (f (full ρ)).bind fun _ => some (.nx ρ)
def pRet (f : PF) : PSt := fun ρ => (f (full ρ)).bind fun d => some (.rt d)
def pRetL (f : PAs) : PSt := fun ρ => (f (full ρ)).bind fun d => some (.rl d)
def asOw : Sl → Option (List D)
  | .ow ds => some ds
  | _ => none
def asSh : Sl → Option D
  | .sh d => some d
  | _ => none
def pRetO (i : Nat) : PSt := fun ρ => (ρ[i]?).bind fun s => (asOw s).bind fun ds => some (.rl ds)
def pRetN : PSt := fun _ => some (.rt .none)
def pIfS (c : PB) (F F' : PSt) : PSt := fun ρ => (c (full ρ)).bind fun b => if b = true then F ρ else F' ρ
def pNever : PSt := fun _ => none
def pApp (i : Nat) (vf : SEnv → Option Sl) : PSt := fun ρ => (vf ρ).bind fun s => (asSh s).bind fun d => (ρ[i]?).bind fun s' => (asOw s').bind fun ds => if fits ds.length = true then some (.nx (ρ.set i (.ow (ds ++ [d])))) else none
def pSetI (i : Nat) (fi : PF) (vf : SEnv → Option Sl) : PSt := fun ρ => (vf ρ).bind fun s => (asSh s).bind fun d => (fi (full ρ)).bind fun k => (asI k).bind fun k => (ρ[i]?).bind fun s' => (asOw s').bind fun ds => (ixN ds.length k).bind fun j => some (.nx (ρ.set i (.ow (ds.set j d))))
def pClear (i : Nat) : PSt := fun ρ => (ρ[i]?).bind fun s' => (asOw s').bind fun _ => some (.nx (ρ.set i (.ow [])))
def relS : Sl → Sl
  | .ow ds => .sh (.list ds)
  | s => s
def relAt (i : Nat) (ρ : SEnv) : SEnv := ρ.modify i relS
def pRel (i : Nat) (F : PSt) : PSt := fun ρ => F (relAt i ρ)
section
variable {X : Cx} {K : PySem.W.Frag} {st : Stmt} {rest : List Stmt} {t u : TS} {F F' : PSt} {pos : Pos}
theorem jss_nil : JSs X K [] tNext pNx := ⟨pss_nil, by
  intro H0 O0 G σ H ρ o E ok s hf q
  cases hf
  exact q σ H s⟩
theorem jss_one (h : JS X K st t F) : JSs X K [st] t F := ⟨pss_one h.pe, h.pu⟩
theorem jss_cons (h1 : JS X K st t F) (h2 : JSs X K rest u F') : JSs X K (st :: rest) (tSeq t u) (pSq F F') := ⟨pss_cons h1.pe h2.pe, by
  intro H0 O0 G σ H ρ o E ok s hf q
  obtain ⟨o1, e1, hf⟩ := bind_some' hf
  refine h1.pu H0 O0 G σ H ρ o1 _ ok s e1 ?_
  cases o1 with
  | nx ρ' => exact fun σ' H' s' => h2.pu H0 O0 G σ' H' ρ' o E ok s' hf q
  | rt d => cases hf; exact q
  | rl d => cases hf; exact q
  | rn d => cases hf; exact q
  | rp d e => cases hf; exact q
  | ro d e => cases hf; exact q
  | bk d => cases hf; exact q
  | ct d => cases hf; exact q⟩
theorem js_never : JS X K st tNever pNever := ⟨ps_never, by
  intro H0 O0 G σ H ρ o E ok s hf q
  cases hf⟩
theorem js_set' {te : TE} {i : Nat} {vf : SEnv → Option Sl} (h : PS X st (tAsg te (gName i))) (pv : PuV K te vf) : JS X K st (tAsg te (gName i)) (pSet i vf) := ⟨h, by
  intro H0 O0 G σ H ρ o E ok s hf q
  obtain ⟨v, e1, hf⟩ := bind_some' hf
  cases hf
  exact pv H0 O0 G σ H ρ v _ ok s e1 fun x H' s' sv => q _ H' (sv.set i)⟩
section
variable {i : Nat} {x : Str} {e : Expr} {te : TE} {pos' : Pos}
theorem js_setS {f : PF} (hN : X.N.Nodup) (hi : X.N[i]? = some x) (hx : Loc X.env.scope x) (he : JE X K e te f) (hs : swapsWith e (some (.Name x pos')) pos.line X.env = pure false := by rfl) (hf : X.fn x = true ∨ X.env.scope.names.lookup x = some .local := by first | exact .inl rfl | exact .inr rfl | assumption) :
    JS X K (.Assign [.Name x pos'] e pos) (tAsg te (gName i)) (pSet i (vS f)) := js_set' (ps_set hN hi hx he.pe hs hf) (pv_S he.pu)
theorem js_setL {f : PAs} (hN : X.N.Nodup) (hi : X.N[i]? = some x) (hx : Loc X.env.scope x) (he : JL X K e te f) (hs : swapsWith e (some (.Name x pos')) pos.line X.env = pure false := by rfl) (hf : X.fn x = true ∨ X.env.scope.names.lookup x = some .local := by first | exact .inl rfl | exact .inr rfl | assumption) :
    JS X K (.Assign [.Name x pos'] e pos) (tAsg te (gName i)) (pSet i (vL f)) := js_set' (ps_set hN hi hx he.pe hs hf) (pv_L he.pu)
end
theorem js_ret {e : Expr} {te : TE} {f : PF} (he : JE X K e te f) : JS X K (.Return (some e) pos) (tRet te) (pRet f) := ⟨ps_ret he.pe, by
  intro H0 O0 G σ H ρ o E ok s hf q
  obtain ⟨d, e1, hf⟩ := bind_some' hf
  cases hf
  exact s.evalF he.pu ok e1 fun v H' s' t' r => q v H' t'.same r⟩
theorem js_retL {e : Expr} {te : TE} {f : PAs} (he : JL X K e te f) : JS X K (.Return (some e) pos) (tRet te) (pRetL f) := ⟨ps_ret he.pe, by
  intro H0 O0 G σ H ρ o E ok s hf q
  obtain ⟨d, e1, hf⟩ := bind_some' hf
  cases hf
  have ⟨o1, e2⟩ := s.envF ok
  exact he.pu O0 σ H (full ρ) d _ o1 e2 e1 fun a xs H' s' hn ha r => q a xs H' (s.same.trans s') (s.same.free hn) ha r⟩
theorem js_retO (i : Nat) {x : Str} {p : Pos} (hN : X.N[i]? = some x := by rfl) (hv : Vis X.env.scope x := by first | exact Or.inl rfl | exact Or.inr (Or.inl rfl) | exact Or.inr (Or.inr rfl)) (hd : (x == ("__debug__" : Str)) = false := by decide)
    (hcd : (x == ("__classdict__" : Str)) = false := by decide) : JS X K (.Return (some (.Name x p)) pos) (tRet (tVar i)) (pRetO i) := ⟨ps_ret (pe_var hN hv hd hcd), by
  intro H0 O0 G σ H ρ o E ok s hf q
  obtain ⟨sl, e1, hf⟩ := bind_some' hf
  obtain ⟨ds, e2, hf⟩ := bind_some' hf
  cases hf
  cases sl with
  | ow es =>
    cases e2
    obtain ⟨O, s0, n, nd, g, sl⟩ := s.ex
    obtain ⟨a, xs, h1, h2, h3, h4⟩ := sl.getOw e1
    refine ⟨_, h1, q a xs H s0 (n a h2) h3 (h4.mono (hid_sub fun b hb => ?_))⟩
    rcases List.mem_cons.mp hb with rfl | hb
    · exact List.mem_append_right _ h2
    · exact List.mem_append_left _ hb
  | _ => cases e2⟩
theorem js_if {c : Expr} {a b : List Stmt} {tc : TT} {pc : PB} (hc : JT X K c tc pc) (ha : JSs X K a t F) (hb : JSs X K b u F') : JS X K (.If c a b pos) (tIfS tc t u) (pIfS pc F F') := ⟨ps_if hc.pe ha.pe hb.pe, by
  intro H0 O0 G σ H ρ o E ok s hf q
  obtain ⟨k, e1, hf⟩ := bind_some' hf
  have ⟨o1, e2⟩ := s.envF ok
  refine hc.pu O0 σ H (full ρ) k _ o1 e2 e1 fun H' s' => ?_
  cases k with
  | true =>
    rw [if_pos rfl] at hf ⊢
    exact ha.pu H0 O0 G σ H' ρ o E ok (s.grow s') hf q
  | false =>
    rw [if_neg Bool.false_ne_true] at hf ⊢
    exact hb.pu H0 O0 G σ H' ρ o E ok (s.grow s') hf q⟩
end
end L2
set_option maxHeartbeats 4000000
namespace L2
open PySem PySem.Spec PyProof.Rows
structure StVs (K : PySem.W.Frag) (H0 : Hp) (O0 : List Addr) (G : Hp) (σ : St) (H : Hp) (ρ : SEnv) (vs : List V) (ds : List D) : Prop where
  ex : ∃ O, Same H0 H ∧ (∀ a ∈ O, H0 a = none) ∧ O.Nodup ∧ Same G (hid (O0 ++ O) H) ∧ Slots K (hid (O0 ++ O) H) H σ ρ O ∧ RepAll K (hid (O0 ++ O) H) vs ds
def PuGS (K : PySem.W.Frag) (g : TG) (bs : D → SEnv → Option SEnv) : Prop := ∀ (H0 : Hp) (O0 : List Addr) (G : Hp) (σ : St) (H : Hp) (ρ : SEnv) (v : V) (d : D) (ρ' : SEnv) (Q : St → Hp → Prop), StV K H0 O0 G σ H ρ v (.sh d) → bs d ρ = some ρ' →
  (∀ σ', StR K H0 O0 G σ' H ρ' → Q σ' H) → g v σ H Q
structure JGS (X : Cx) (K : PySem.W.Frag) (tg : Expr) (g : TG) (bs : D → SEnv → Option SEnv) : Prop where
  pe : PG X tg g
  pu : PuGS K g bs
def bs1 (i : Nat) : D → SEnv → Option SEnv := fun d ρ => some (ρ.set i (.sh d))
def bs2 (i j : Nat) : D → SEnv → Option SEnv
  | .tuple [a, b], ρ => some ((ρ.set i (.sh a)).set j (.sh b))
  | _, _ => none
section
variable {X : Cx} {K : PySem.W.Frag} {pos : Pos}
theorem StVs.set {H0 : Hp} {O0 : List Addr} {G : Hp} {σ : St} {H : Hp} {ρ : SEnv} {v : V} {d : D} {vs : List V} {ds : List D} (t : StVs K H0 O0 G σ H ρ (v :: vs) (d :: ds)) (i : Nat) : StVs K H0 O0 G (σ.set i (some v)) H (ρ.set i (.sh d)) vs ds := by
  obtain ⟨O, s0, n, nd, g, sl, r⟩ := t.ex
  cases r with
  | cons r rs =>
    obtain ⟨O', hs, sl'⟩ := sl.setSh r i
    have sub : ∀ b, b ∈ O0 ++ O' → b ∈ O0 ++ O := fun b hb => (List.mem_append.mp hb).elim (fun z => List.mem_append_left _ z) fun z => List.mem_append_right _ (hs.subset z)
    exact ⟨O', s0, fun a ha => n a (hs.subset ha), hs.nodup nd, g.trans (hid_sub sub), sl'.mono (hid_sub sub) fun _ _ _ e => e, rs.mono (hid_sub sub)⟩
theorem StVs.str {H0 : Hp} {O0 : List Addr} {G : Hp} {σ : St} {H : Hp} {ρ : SEnv} {vs : List V} {ds : List D} (t : StVs K H0 O0 G σ H ρ vs ds) : StR K H0 O0 G σ H ρ := by
  obtain ⟨O, s0, n, nd, g, sl, r⟩ := t.ex
  exact ⟨O, s0, n, nd, g, sl⟩
theorem StV.parts {H0 : Hp} {O0 : List Addr} {G : Hp} {σ : St} {H : Hp} {ρ : SEnv} {v : V} {ds : List D} (t : StV K H0 O0 G σ H ρ v (.sh (.tuple ds))) : ∃ a xs, v = .ref a ∧ SqT K H a xs ∧ StVs K H0 O0 G σ H ρ xs ds := by
  obtain ⟨O, P, s0, n, nd, g, sl, rfl, r⟩ := t.ex
  cases r with
  | tup q r' => exact ⟨_, _, rfl, hid_le.seqT q, O, s0, n, nd, g, sl, r'⟩
theorem StVs.len {H0 : Hp} {O0 : List Addr} {G : Hp} {σ : St} {H : Hp} {ρ : SEnv} {vs : List V} {ds : List D} (t : StVs K H0 O0 G σ H ρ vs ds) : vs.length = ds.length := by
  obtain ⟨O, s0, n, nd, g, sl, r⟩ := t.ex
  exact r.length
theorem jgs_name {i : Nat} {x : Str} (hN : X.N.Nodup) (hi : X.N[i]? = some x) (hx : Loc X.env.scope x) (hf : X.fn x = true ∨ X.env.scope.names.lookup x = some .local := by first | exact .inl rfl | exact .inr rfl | assumption) : JGS X K (.Name x pos) (gName i) (bs1 i) := ⟨pg_name hN hi hx hf, by
  intro H0 O0 G σ H ρ v d ρ' Q t hb q
  cases hb
  exact q _ (t.set i)⟩
theorem jgs_two {i j : Nat} {x y : Str} {p1 p2 : Pos} {k : Nat} (hK : X.K = K) (hc : X.calm = true) (hN : X.N.Nodup) (hi : X.N[i]? = some x) (hx : Loc X.env.scope x) (hj : X.N[j]? = some y) (hy : Loc X.env.scope y)
    (hf : X.fn x = true ∨ X.env.scope.names.lookup x = some .local := by first | exact .inl rfl | exact .inr rfl | assumption) (hf2 : X.fn y = true ∨ X.env.scope.names.lookup y = some .local := by first | exact .inl rfl | exact .inr rfl | assumption)
    (h1 : (assignEach [.Name x p1, .Name y p2] X.env).map (·.2) = assign (.Name x p1) X.env :: (assignEach [.Name y p2] X.env).map (·.2) := by rfl) (h2 : (assignEach [.Name y p2] X.env).map (·.2) = assign (.Name y p2) X.env :: (assignEach [] X.env).map (·.2) := by rfl)
    (hn : (assignEach [.Name x p1, .Name y p2] X.env).length = 2 := by rfl) (hst : (assignEach [.Name x p1, .Name y p2] X.env).findIdx? (·.1) = none := by rfl) :
    JGS X K (.Tuple [.Name x p1, .Name y p2] k pos) (gTup K 2 (gCons (gName i) (gCons (gName j) gNil))) (bs2 i j) := ⟨by
  subst hK
  exact pg_tup hc (pgs_cons (pg_name hN hi hx hf) (pgs_cons (pg_name hN hj hy hf2) pgs_nil h2) h1) hn hst, by
  intro H0 O0 G σ H ρ v d ρ' Q t hb q
  unfold bs2 at hb
  split at hb
  · rename_i a b _
    cases hb
    obtain ⟨p, xs, rfl, hq, ts⟩ := t.parts
    have hl := ts.len
    match xs, hl with
    | [v1, v2], _ => exact ⟨p, _, rfl, hq, rfl, _, _, rfl, _, _, rfl, rfl, q _ ((ts.set i).set j).str⟩
  · cases hb⟩
def pAsg (bs : D → SEnv → Option SEnv) (vf : SEnv → Option Sl) : PSt := fun ρ => (vf ρ).bind fun s => (asSh s).bind fun d => (bs d ρ).bind fun ρ' => some (.nx ρ')
theorem asSh_eq {s : Sl} {d : D} (h : asSh s = some d) : s = .sh d := by
  cases s with
  | sh e => cases h; rfl
  | _ => cases h
theorem asOw_eq {s : Sl} {d : List D} (h : asOw s = some d) : s = .ow d := by
  cases s with
  | ow e => cases h; rfl
  | _ => cases h
theorem js_asg {tg e : Expr} {te : TE} {g : TG} {bs : D → SEnv → Option SEnv} {vf : SEnv → Option Sl} (he : PE X e te) (pv : PuV K te vf) (hg : JGS X K tg g bs) (hs : swapsWithSole [tg] e pos.line X.env = pure false := by rfl) (hw : swappedStores [tg] e X.env = pure none := by rfl)
    (h1 : (assignEach [tg] X.env).map (·.2) = [assign tg X.env] := by rfl) : JS X K (.Assign [tg] e pos) (tAsg te g) (pAsg bs vf) := ⟨ps_asg he hg.pe hs hw h1, by
  intro H0 O0 G σ H ρ o E ok s hf q
  obtain ⟨sl, e1, hf⟩ := bind_some' hf
  obtain ⟨d, e2, hf⟩ := bind_some' hf
  obtain ⟨ρ', e3, hf⟩ := bind_some' hf
  cases hf
  cases asSh_eq e2
  exact pv H0 O0 G σ H ρ _ _ ok s e1 fun v H' s' sv => hg.pu H0 O0 G σ H' ρ v d ρ' _ sv e3 fun σ' t => q σ' H' t⟩
theorem js_asgS {tg e : Expr} {te : TE} {f : PF} {g : TG} {bs : D → SEnv → Option SEnv} (he : JE X K e te f) (hg : JGS X K tg g bs) (hs : swapsWithSole [tg] e pos.line X.env = pure false := by rfl) (hw : swappedStores [tg] e X.env = pure none := by rfl)
    (h1 : (assignEach [tg] X.env).map (·.2) = [assign tg X.env] := by rfl) : JS X K (.Assign [tg] e pos) (tAsg te g) (pAsg bs (vS f)) := js_asg he.pe (pv_S he.pu) hg hs hw h1
def forP (bs : D → SEnv → Option SEnv) (F : PSt) : List D → SEnv → Option Out
  | [], ρ => some (.nx ρ)
  | d :: ds, ρ => (bs d ρ).bind fun ρ1 => (F ρ1).bind fun o => match o with
    | .nx ρ' => forP bs F ds ρ'
    | .ct ρ' => forP bs F ds ρ'
    | .bk ρ' => some (.nx ρ')
    | .rt d => some (.rt d)
    | .rl d => some (.rl d)
    | .rn d => some (.rn d)
    | .rp d e => some (.rp d e)
    | .ro d e => some (.ro d e)
def pFor (fi : PAs) (bs : D → SEnv → Option SEnv) (F : PSt) : PSt := fun ρ => (fi (masked ρ)).bind fun items => forP bs F items ρ
theorem StR.ghost {H0 : Hp} {O0 : List Addr} {G G1 : Hp} {σ : St} {H : Hp} {ρ : SEnv} (t : StR K H0 O0 G1 σ H ρ) (g : Same G G1) : StR K H0 O0 G σ H ρ := by
  obtain ⟨O, s0, n, nd, g1, sl⟩ := t.ex
  exact ⟨O, s0, n, nd, g.trans g1, sl⟩
theorem pu_for {wi : TI} {g : TG} {tb : TS} {fi : PAs} {bs : D → SEnv → Option SEnv} {F : PSt} (hi : PuI K wi fi) (hg : PuGS K g bs) (hb : PuS K tb F) : PuS K (tFor wi g tb) (pFor fi bs F) := by
  intro H0 O0 G σ H ρ o E ok s hf q
  obtain ⟨items, e1, hf⟩ := bind_some' hf
  obtain ⟨O, s0, n, nd, gg, sl⟩ := s.ex
  refine hi (O0 ++ O) σ H (masked ρ) items _ (okAll ok s0 sl) sl.mask e1 fun J H1 s1 it => ?_
  have t1 : StR K H0 O0 (hid (O0 ++ O) H1) σ H1 ρ := ⟨O, s0.trans s1, n, nd, Same.refl _, sl.mono (hid_same s1) fun a _ o e => s1 a o e⟩
  have gG : Same G (hid (O0 ++ O) H1) := gg.trans (hid_same s1)
  refine ⟨fun i m σ H => m = items.length - i ∧ i ≤ items.length ∧ ∃ ρi, StR K H0 O0 (hid (O0 ++ O) H1) σ H ρi ∧ forP bs F (items.drop i) ρi = some o, ⟨items.length, by simp, Nat.zero_le _, ρ, t1, by simpa using hf⟩, ?_⟩
  rintro i m σ' H' ⟨rfl, hil, ρi, ti, hfi⟩
  obtain ⟨O', s0', n', nd', g', sl'⟩ := ti.ex
  have I := it (O0 ++ O') H' (okAll ok s0' sl') g'
  by_cases hlt : i < items.length
  · refine .inr ⟨I.1 i hlt, fun σ' H' => ∃ ρ', StR K H0 O0 (hid (O0 ++ O) H1) σ' H' ρ' ∧ forP bs F (items.drop (i + 1)) ρ' = some o, fun σ2 H2 ⟨ρ', t', h'⟩ => ⟨items.length - (i + 1), by omega, rfl, hlt, ρ', t', h'⟩, fun x H'' y => ?_⟩
    obtain ⟨d, ed, s'', rd⟩ := I.2.1 i x H'' hlt y
    have hdrop : items.drop i = d :: items.drop (i + 1) := by
      rw [List.drop_eq_getElem_cons hlt]
      congr 1
      exact Option.some.inj ((List.getElem?_eq_getElem hlt).symm.trans ed)
    rw [hdrop] at hfi
    obtain ⟨ρ1, eb, hfi⟩ := bind_some' hfi
    obtain ⟨o1, eo, hfi⟩ := bind_some' hfi
    have sv : StV K H0 O0 (hid (O0 ++ O) H1) σ' H'' ρi x (.sh d) := ⟨O', [], s0'.trans s'', n', nd', g'.trans (hid_same s''), sl'.mono (hid_same s'') fun a _ o e => s'' a o e, rfl, rd⟩
    refine hg H0 O0 _ σ' H'' ρi x d ρ1 _ sv eb fun σ2 t2 => ?_
    refine hb H0 O0 _ σ2 H'' ρ1 o1 _ ok t2 eo ?_
    cases o1 with
    | nx ρ' => exact fun σ3 H3 t3 => ⟨ρ', t3, hfi⟩
    | ct ρ' => exact fun σ3 H3 t3 => ⟨ρ', t3, hfi⟩
    | bk ρ' => cases hfi; exact fun σ3 H3 t3 => q σ3 H3 (t3.ghost gG)
    | rt d => cases hfi; exact q
    | rl d => cases hfi; exact q
    | rn d => cases hfi; exact q
    | rp d e => cases hfi; exact q
    | ro d e => cases hfi; exact q
  · have e : i = items.length := by omega
    subst e
    rw [List.drop_length] at hfi
    cases hfi
    exact .inl ⟨I.2.2, q σ' H' (ti.ghost gG)⟩
theorem js_for {tg iter : Expr} {body : List Stmt} {wi : TI} {g : TG} {tb : TS} {fi : PAs} {bs : D → SEnv → Option SEnv} {F : PSt} (hp : PassesOwn (model X.prog X.w) X.A X.env X.xe) (hc : X.calm = true) (hi : JI X K tg iter wi fi) (hg : JGS X K tg g bs) (hb : JSs X K body tb F)
    (hs : ∀ x, foldedSetIterable iter X.env x = pure x := by intro _; rfl) : JS X K (.For tg iter body [] pos) (tFor wi g tb) (pFor fi bs F) := ⟨ps_for hp hc hi.pe hg.pe hb.pe hs, pu_for hi.pu hg.pu hb.pu⟩
def whileP (c : PB) (F : PSt) : Nat → PSt
  | 0 => fun _ => none
  | n + 1 => fun ρ => (c (full ρ)).bind fun b => if b = true then (F ρ).bind fun o => match o with
      | .nx ρ' => whileP c F n ρ'
      | .ct ρ' => whileP c F n ρ'
      | .bk ρ' => some (.nx ρ')
      | .rt d => some (.rt d)
      | .rl d => some (.rl d)
      | .rn d => some (.rn d)
      | .rp d e => some (.rp d e)
      | .ro d e => some (.ro d e)
    else some (.nx ρ)
theorem StR.write {H0 : Hp} {O0 : List Addr} {G : Hp} {σ : St} {H : Hp} {ρ : SEnv} {v : V} {d : D} {i : Nat} {ds : List D} (t : StV K H0 O0 G σ H ρ v (.sh d)) (hi : ρ[i]? = some (.ow ds)) :
    ∃ a xs, σ[i]? = some (some (.ref a)) ∧ H a = some (.lst xs) ∧ xs.length = ds.length ∧ StR K H0 O0 G σ (upd H a (.lst (xs ++ [v]))) (ρ.set i (.ow (ds ++ [d]))) ∧ (∀ j, StR K H0 O0 G σ (upd H a (.lst (xs.set j v))) (ρ.set i (.ow (ds.set j d)))) := by
  obtain ⟨O, P, s0, n, nd, g, sl, rfl, r⟩ := t.ex
  obtain ⟨a, xs, h1, h2, h3, h4⟩ := sl.getOw hi
  have s0' : ∀ ys, Same H0 (upd H a (.lst ys)) := fun ys b o e => by
    rw [upd_ne (ne_of_none e (n a h2))]
    exact s0 b o e
  have hh : ∀ ys, hid (O0 ++ ([] ++ O)) (upd H a (.lst ys)) = hid (O0 ++ ([] ++ O)) H := fun ys => hid_upd (by simp [h2])
  refine ⟨a, xs, h1, h3, h4.length, ⟨O, s0' _, n, nd, ?_, ?_⟩, fun j => ⟨O, s0' _, n, nd, ?_, ?_⟩⟩
  · have := hh (xs ++ [v]); simp only [List.nil_append] at this g ⊢; rw [this]; exact g
  · have := sl.write (h4.append (.cons r .nil)) nd hi h1; have e := hh (xs ++ [v]); simp only [List.nil_append] at this e ⊢; rw [e]; exact this
  · have := hh (xs.set j v); simp only [List.nil_append] at this g ⊢; rw [this]; exact g
  · have := sl.write (h4.set r j) nd hi h1; have e := hh (xs.set j v); simp only [List.nil_append] at this e ⊢; rw [e]; exact this
theorem StR.getOw {H0 : Hp} {O0 : List Addr} {G : Hp} {σ : St} {H : Hp} {ρ : SEnv} {i : Nat} {ds : List D} (t : StR K H0 O0 G σ H ρ) (hi : ρ[i]? = some (.ow ds)) : ∃ a xs, σ[i]? = some (some (.ref a)) ∧ H a = some (.lst xs) ∧ xs.length = ds.length := by
  obtain ⟨O, s0, n, nd, g, sl⟩ := t.ex
  obtain ⟨a, xs, h1, h2, h3, h4⟩ := sl.getOw hi
  exact ⟨a, xs, h1, h3, h4.length⟩
theorem js_app (i : Nat) {x : Str} {e : Expr} {te : TE} {vf : SEnv → Option Sl} {p apos cpos : Pos} (he : PE X e te) (pv : PuV K te vf) (hK : X.K = K) (hN : X.N[i]? = some x := by rfl) (hv : Vis X.env.scope x := by first | exact Or.inl rfl | exact Or.inr (Or.inl rfl) | exact Or.inr (Or.inr rfl)) (hd : (x == ("__debug__" : Str)) = false := by decide)
    (hcd : (x == ("__classdict__" : Str)) = false := by decide) (hbase : attributeBase (.Name x p) "append" X.env (eval (.Name x p) X.env) = eval (.Name x p) X.env := by rfl)
    (hfew : ((backTo cpos (starEach [e] X.env)).all (fun x => !x.1) && (backToKw cpos (keywordEach [] X.env)).all (fun x => x.1.isSome)
      && decide ([e].length + ([] : List Keyword).length + (if ([] : List Keyword).isEmpty then 0 else 1) < 30)) = true := by rfl)
    (hline : (apos.endLine == cpos.line) = true := by rfl) (hs : starEach [e] X.env = (false, eval e X.env) :: starEach [] X.env := by rfl) (hplain : (backTo cpos (starEach [] X.env)).any (·.1) = false := by rfl)
    (hs2 : swapsWith (.Call (.Attribute (.Name x p) "append" apos) [e] [] cpos) none pos.line X.env = pure false := by rfl) :
    JS X K (.Expr (.Call (.Attribute (.Name x p) "append" apos) [e] [] cpos) pos) (tDrop (tBM K "list" rAppend (tVar i) (tCons te tNil))) (pApp i vf) := ⟨by
  subst hK
  exact ps_expr (pe_bm PySem.F.plainAttrs_list PySem.F.slot_list_append PySem.F.type_list_append mt_append (pe_var hN hv hd hcd) (pa_cons he pa_nil hs) hbase hfew hline hs hplain) hs2, by
  intro H0 O0 G σ H ρ o E ok s hf q
  obtain ⟨sl, e1, hf⟩ := bind_some' hf
  obtain ⟨d, e2, hf⟩ := bind_some' hf
  obtain ⟨sl2, e3, hf⟩ := bind_some' hf
  obtain ⟨ds, e4, hf⟩ := bind_some' hf
  rw [asSh_eq e2] at e1
  rw [asOw_eq e4] at e3
  by_cases hc : fits ds.length = true
  · rw [if_pos hc] at hf
    cases hf
    obtain ⟨a, xs, h1, h2, h3⟩ := s.getOw e3
    refine ⟨_, h1, .inl ⟨rfl, _, SqL.of h2⟩, ?_⟩
    refine pv H0 O0 G σ H ρ _ _ ok s e1 fun v H' s' sv => ?_
    obtain ⟨a', xs', h1', h2', h3', t', _⟩ := StR.write sv e3
    rw [h1] at h1'
    cases h1'
    exact ⟨a, xs', v, rfl, rfl, h2', by rw [h3']; exact of_decide_eq_true hc, q σ _ t'⟩
  · rw [if_neg hc] at hf
    cases hf⟩
theorem js_setI (i : Nat) {x : Str} {e ix : Expr} {te ti : TE} {fi : PF} {vf : SEnv → Option Sl} {p spos : Pos} (he : PE X e te) (pv : PuV K te vf) (hi : JE X K ix ti fi) (hN : X.N[i]? = some x := by rfl) (hv : Vis X.env.scope x := by first | exact Or.inl rfl | exact Or.inr (Or.inl rfl) | exact Or.inr (Or.inr rfl)) (hd : (x == ("__debug__" : Str)) = false := by decide)
    (hcd : (x == ("__classdict__" : Str)) = false := by decide)
    (ha : ∀ v, assign (.Subscript (.Name x p) ix spos) X.env v = (do
      let ov ← holding [v] (eval (.Name x p) X.env)
      let iv ← holding [v, ov] (eval ix X.env)
      standAt spos
      holding [v, ov, iv] (setItem ov iv v)
      release [v, ov, iv] []) := by intro _; rfl)
    (hs : swapsWithSole [.Subscript (.Name x p) ix spos] e pos.line X.env = pure false := by rfl) (hw : swappedStores [.Subscript (.Name x p) ix spos] e X.env = pure none := by rfl)
    (h1 : (assignEach [.Subscript (.Name x p) ix spos] X.env).map (·.2) = [assign (.Subscript (.Name x p) ix spos) X.env] := by rfl) :
    JS X K (.Assign [.Subscript (.Name x p) ix spos] e pos) (tAsg te (gSub (tVar i) ti rSetL)) (pSetI i fi vf) := ⟨ps_asg he (pg_sub (pe_var hN hv hd hcd) hi.pe set_list ha) hs hw h1, by
  intro H0 O0 G σ H ρ o E ok s hf q
  obtain ⟨sl, e1, hf⟩ := bind_some' hf
  obtain ⟨d, e2, hf⟩ := bind_some' hf
  obtain ⟨kd, e5, hf⟩ := bind_some' hf
  obtain ⟨k, e6, hf⟩ := bind_some' hf
  obtain ⟨sl2, e3, hf⟩ := bind_some' hf
  obtain ⟨ds, e4, hf⟩ := bind_some' hf
  obtain ⟨j, e7, hf⟩ := bind_some' hf
  rw [asSh_eq e2] at e1
  rw [asOw_eq e4] at e3
  cases hf
  refine pv H0 O0 G σ H ρ _ _ ok s e1 fun v H' s' sv => ?_
  obtain ⟨a, xs, h1, h2, h3⟩ := sv.str.getOw e3
  refine ⟨_, h1, ?_⟩
  refine sv.str.evalF hi.pu ok e5 fun vi H2 s2 t2 ri => ?_
  obtain ⟨a', xs', h1', h2', h3', _, t'⟩ := StR.write (sv.grow s2) e3
  rw [h1] at h1'
  cases h1'
  cases ri with
  | int m => cases e6; exact ⟨a, xs', _, j, rfl, rfl, h2', by rw [h3']; exact e7, q σ _ (t' j)⟩
  | _ => cases e6⟩
end
section
variable {X : Cx} {K : PySem.W.Frag} {tg elt iter : Expr} {ifs : List Expr} {scope : Scope} {wi : TI} {g : TG} {tc : TT} {te : TE} {fi : PAs} {bd : D → PEnv → Option PEnv} {pt : PB} {fe : PF}
end
def startP (m : Nat) (ds : List D) : SEnv := ds.map .sh ++ List.replicate (m - ds.length) .no
def outD : Out → Option D
  | .rt d => some d
  | .rl ds => some (.list ds)
  | .rn dss => some (.list (dss.map .list))
  | .rp ds d => some (.tuple [.list ds, d])
  | .nx _ => some .none
  | _ => none
def outL : Out → Option (List D)
  | .rl ds => some ds
  | _ => none
def runF (n m : Nat) (F : PSt) : List D → Option D := fun ds => if ds.length = n then (F (startP m ds)).bind outD else none
def runL (n m : Nat) (F : PSt) : List D → Option (List D) := fun ds => if ds.length = n then (F (startP m ds)).bind outL else none
theorem takesF (n m : Nat) (F : PSt) : Takes n (runF n m F) := fun ds a h => by
  unfold runF at h
  by_cases hc : ds.length = n
  · exact hc
  · rw [if_neg hc] at h; cases h
theorem takesL (n m : Nat) (F : PSt) : Takes n (runL n m F) := fun ds a h => by
  unfold runL at h
  by_cases hc : ds.length = n
  · exact hc
  · rw [if_neg hc] at h; cases h
section
variable {P : Program} {w : World} {K : PySem.W.Frag} {mg : Str → Option Value} {base : Heap}
theorem slots_start {H : Hp} {O : List Addr} {vs : List V} {ds : List D} (r : RepAll K (hid O H) vs ds) (k : Nat) : Slots K (hid O H) H (vs.map some ++ List.replicate k none) (ds.map .sh ++ List.replicate k .no) [] := by
  induction r using RepAll.rec (motive_1 := fun _ _ _ => True) with
  | non => trivial
  | bl => trivial
  | int => trivial
  | str => trivial
  | lst => trivial
  | tup => trivial
  | dic => trivial
  | obj => trivial
  | nil =>
    simp only [List.map_nil, List.nil_append]
    induction k with
    | zero => exact .nil
    | succ k ih => exact .no ih
  | cons q _ _ ih => exact .sh q ih
theorem str_start {H : Hp} {O : List Addr} {vs : List V} {ds : List D} (r : RepAll K (hid O H) vs ds) (N : List Str) : StR K H O (hid O H) (start N vs) H (startP N.length ds) := by
  refine ⟨[], Same.refl _, (fun a h => by cases h), List.nodup_nil, ?_, ?_⟩
  · rw [List.append_nil]; exact Same.refl _
  · rw [List.append_nil]
    unfold start startP
    rw [r.length]
    exact slots_start r _
theorem Def.pureF {x : Str} {st : Stmt} {N ps : List Str} {k n m : Nat} {F : PSt} {fn : List D → Option D} (hfn : fn = runF n m F) (D : Def K mg x st ps) (S : FnScope N ps (defScope st)) (hn : ps.length = n) (hm : N.length = m)
    (hb : ∀ (f : Addr) (cdv : Value) (A : Around) (outer : List Env) (s : Shared) (H : Hp) (E : XK), Room k (A.deeper (envOfC x (defScope st) s.heap.objs.size f cdv)) →
      ∃ t, JSs (cxOf CX0 P w K mg base N x (defScope st) f cdv A outer s H E).nox K (defBody st) t F) : Callee P w K mg base (k + 1) x ps (spF K n fn) := by
  subst hfn hm
  refine D.ok S (fun vs H Q E h => by rw [h.1, hn]) fun f cdv A outer s H vs Q E hr h => ?_
  obtain ⟨t, j⟩ := hb f cdv A outer s H E hr
  refine ⟨t, j.pe, ?_⟩
  obtain ⟨hl, O, ds, d, ok, r, hf, q⟩ := h
  have hl2 : ds.length = n := by rw [← r.length]; exact hl
  unfold runF at hf
  rw [if_pos hl2] at hf
  obtain ⟨o, e1, hf⟩ := bind_some' hf
  refine j.pu H O (hid O H) _ H _ o _ ok (str_start r N) e1 ?_
  cases o with
  | nx ρ => cases hf; exact fun σ' H' t' => q .non H' t'.same .non
  | rt d' => cases hf; exact fun v H' s' r' => q v H' s' r'
  | rl es =>
    cases hf
    refine fun a xs H' s' hn' ha r' => q (.ref a) H' s' ?_
    exact .lst (SqL.of (by rw [hid_out (ok.fresh hn')]; exact ha)) (r'.mono (hid_sub fun b hb => List.mem_cons_of_mem _ hb))
  | rn ess =>
    cases hf
    refine fun a ps H' s' nd' hn' ha r' => q (.ref a) H' s' ?_
    refine .lst (SqL.of (by rw [hid_out (ok.fresh (hn' a List.mem_cons_self))]; exact ha)) (r'.full (hid_sub fun b hb => List.mem_append_right _ hb) fun b hb o e => ?_)
    rw [hid_out (ok.fresh (hn' b (List.mem_cons_of_mem _ hb)))]
    exact e
  | rp es d2 =>
    cases hf
    refine fun p a xs v H' s' ha0 hp0 ha hp r' rv => q (.ref p) H' s' ?_
    have sb : Same (hid (a :: O) H') (hid O H') := hid_sub fun b hb => List.mem_cons_of_mem _ hb
    exact .tup (SqT.of (by rw [hid_out (ok.fresh hp0)]; exact hp)) (.cons (.lst (SqL.of (by rw [hid_out (ok.fresh ha0)]; exact ha)) (r'.mono sb)) (.cons (rv.mono sb) .nil))
  | ro d2 ρ2 => cases hf
  | bk ρ => cases hf
  | ct ρ => cases hf
theorem Def.pureL {x : Str} {st : Stmt} {N ps : List Str} {k n m : Nat} {F : PSt} {fn : List D → Option (List D)} (hfn : fn = runL n m F) (D : Def K mg x st ps) (S : FnScope N ps (defScope st)) (hn : ps.length = n) (hm : N.length = m)
    (hb : ∀ (f : Addr) (cdv : Value) (A : Around) (outer : List Env) (s : Shared) (H : Hp) (E : XK), Room k (A.deeper (envOfC x (defScope st) s.heap.objs.size f cdv)) →
      ∃ t, JSs (cxOf CX0 P w K mg base N x (defScope st) f cdv A outer s H E).nox K (defBody st) t F) : Callee P w K mg base (k + 1) x ps (spL K n fn) := by
  subst hfn hm
  refine D.ok S (fun vs H Q E h => by rw [h.1, hn]) fun f cdv A outer s H vs Q E hr h => ?_
  obtain ⟨t, j⟩ := hb f cdv A outer s H E hr
  refine ⟨t, j.pe, ?_⟩
  obtain ⟨hl, O, ds, d, ok, r, hf, q⟩ := h
  have hl2 : ds.length = n := by rw [← r.length]; exact hl
  unfold runL at hf
  rw [if_pos hl2] at hf
  obtain ⟨o, e1, hf⟩ := bind_some' hf
  refine j.pu H O (hid O H) _ H _ o _ ok (str_start r N) e1 ?_
  cases o with
  | rl es => cases hf; exact fun a xs H' s' hn' ha r' => q a xs H' s' hn' ha r'
  | rn ess => cases hf
  | rp _ _ => cases hf
  | ro d e => cases hf
  | nx ρ => cases hf
  | rt d' => cases hf
  | bk ρ => cases hf
  | ct ρ => cases hf
end
end L2
set_option maxHeartbeats 4000000
namespace L2
open PySem PySem.Spec PyProof.Rows
section
variable {X : Cx} {pins : List (Addr × Obj)} {σ : St} {H : Hp} {s : Shared}
theorem Inv.dict_cls {a : Addr} {kvs : List (Key × V)} (I : Inv X pins σ H s) (h : H a = some (.dK kvs)) : ∃ o, s.heap.get? a = some o ∧ o.cls = .type "dict" := by
  obtain ⟨_, _, vs, _, hd⟩ := I.hok a _ h
  obtain ⟨o, es, ep, e1, e2, _⟩ := hd
  exact ⟨o, e1, e2.1⟩
theorem no_listD {a : Addr} {kvs : List (Key × V)} {xs : List V} (I : Inv X pins σ H s) (h : H a = some (.dK kvs)) (q : SqL X.K H a xs) : False := by
  obtain ⟨_, _, ⟨o, n, e, c, _⟩, _⟩ := I.list q
  obtain ⟨o', e', c'⟩ := I.dict_cls h
  rw [e] at e'
  cases e'
  rw [c] at c'
  exact absurd c' (by intro z; injection z with z; exact absurd z (by decide))
theorem no_tupD {a : Addr} {kvs : List (Key × V)} {xs : List V} (I : Inv X pins σ H s) (h : H a = some (.dK kvs)) (q : SqT X.K H a xs) : False := by
  obtain ⟨_, _, ⟨o, e, c, _⟩, _⟩ := I.tuple q
  obtain ⟨o', e', c'⟩ := I.dict_cls h
  rw [e] at e'
  cases e'
  rw [c] at c'
  exact absurd c' (by intro z; injection z with z; exact absurd z (by decide))
theorem Inv.ins_cls {a C dx : Addr} {fs : List (Str × V)} (I : Inv X pins σ H s) (h : H a = some (.ins C dx fs)) : ∃ o, s.heap.get? a = some o ∧ o.cls = .ref C := by
  obtain ⟨mA, O, _⟩ := ins_get I.hok h
  obtain ⟨od, ⟨e, _⟩, _⟩ := O.look
  exact ⟨_, e, rfl⟩
theorem no_listI {a C dx : Addr} {fs : List (Str × V)} {xs : List V} (I : Inv X pins σ H s) (h : H a = some (.ins C dx fs)) (q : SqL X.K H a xs) : False := by
  obtain ⟨_, _, ⟨o, n, e, c, _⟩, _⟩ := I.list q
  obtain ⟨o', e', c'⟩ := I.ins_cls h
  rw [e] at e'
  cases e'
  rw [c] at c'
  cases c'
theorem no_tupI {a C dx : Addr} {fs : List (Str × V)} {xs : List V} (I : Inv X pins σ H s) (h : H a = some (.ins C dx fs)) (q : SqT X.K H a xs) : False := by
  obtain ⟨_, _, ⟨o, e, c, _⟩, _⟩ := I.tuple q
  obtain ⟨o', e', c'⟩ := I.ins_cls h
  rw [e] at e'
  cases e'
  rw [c] at c'
  cases c'
mutual
theorem Rep.uniq (I : Inv X pins σ H s) : ∀ {x : V} {d d' : D}, Rep X.K H x d → Rep X.K H x d' → d = d'
  | _, _, _, .non, r => by cases r; rfl
  | _, _, _, .bl b, r => by cases r; rfl
  | _, _, _, .int i, r => by cases r; rfl
  | _, _, _, .str x, r => by cases r; rfl
  | _, _, _, .lst q t, r => by
    cases r with
    | lst q' t' =>
      cases I.list_inj q q'
      rw [RepAll.uniq I t t']
    | tup q' t' =>
      obtain ⟨_, _, ⟨o, n, e, c, _⟩, _⟩ := I.list q
      obtain ⟨_, _, ⟨o', e', c', _⟩, _⟩ := I.tuple q'
      rw [e] at e'
      cases e'
      rw [c] at c'
      exact absurd c' (by intro z; injection z with z; exact absurd z (by decide))
    | dic q' => exact (no_listD I q' q).elim
    | obj _ q' _ _ => exact (no_listI I q' q).elim
  | _, _, _, .obj k q t z, r => by
    cases r with
    | dic q' => rw [q] at q'; cases q'
    | lst q' t' => exact (no_listI I q q').elim
    | tup q' t' => exact (no_tupI I q q').elim
    | obj k' q' t' z' =>
      rw [q] at q'
      cases q'
      rw [z, z', RepAll.uniq I t t']
  | _, _, _, .dic q, r => by
    cases r with
    | dic q' => rfl
    | obj _ q' _ _ => rw [q] at q'; cases q'
    | lst q' t' => exact (no_listD I q q').elim
    | tup q' t' => exact (no_tupD I q q').elim
  | _, _, _, .tup q t, r => by
    cases r with
    | dic q' => exact (no_tupD I q' q).elim
    | obj _ q' _ _ => exact (no_tupI I q' q).elim
    | tup q' t' =>
      cases I.tuple_inj q q'
      rw [RepAll.uniq I t t']
    | lst q' t' =>
      obtain ⟨_, _, ⟨o, n, e, c, _⟩, _⟩ := I.list q'
      obtain ⟨_, _, ⟨o', e', c', _⟩, _⟩ := I.tuple q
      rw [e] at e'
      cases e'
      rw [c] at c'
      exact absurd c' (by intro z; injection z with z; exact absurd z (by decide))
theorem RepAll.uniq (I : Inv X pins σ H s) : ∀ {xs : List V} {ds ds' : List D}, RepAll X.K H xs ds → RepAll X.K H xs ds' → ds = ds'
  | _, _, _, .nil, r => by cases r; rfl
  | _, _, _, .cons q t, r => by
    cases r with
    | cons q' t' => rw [Rep.uniq I q q', RepAll.uniq I t t']
end
end
def shapedAll (ds : List D) : Bool := ds.all SeqAt.shaped
section
variable {X : Cx} {K : PySem.W.Frag}
theorem hu66 {A : Around} {k : Nat} (hr : Room k A) : A.units + 66 < cLine := by have := hr.un; omega
def vLS (f : PAs) : SEnv → Option Sl := fun ρ => (f (full ρ)).bind fun ds => if flatAll ds = true then some (.sh (.list ds)) else none
theorem pv_LS {te : TE} {fl : PAs} (h : PuL K te fl) : PuV K te (vLS fl) := by
  intro H0 O0 G σ H ρ s Q ok t hf q
  obtain ⟨d, e1, hf⟩ := bind_some' hf
  by_cases hc : flatAll d = true
  · rw [if_pos hc] at hf
    cases hf
    have ⟨o1, e2⟩ := t.envF ok
    obtain ⟨O, s0, n, nd, g, sl⟩ := t.ex
    have okA := okAll ok s0 sl
    refine h O0 σ H (full ρ) d Q o1 e2 e1 fun a xs H' s' hn ha r => ?_
    have sl' := sl.mono (hid_same (O := O0 ++ O) s') fun b _ o e => s' b o e
    have na : a ∉ O0 ++ O := okA.fresh hn
    refine q (.ref a) H' s' ⟨O, [], s0.trans s', n, nd, g.trans (hid_same s'), sl', rfl, .lst (SqL.of (by rw [show O0 ++ ([] ++ O) = O0 ++ O from rfl, hid_out na]; exact ha)) ?_⟩
    have := flat_reps (K := K) (O0 := a :: O0) (O := O) sl'.mem r hc
    exact this.mono (hid_sub fun b hb => List.mem_cons_of_mem _ hb)
  · rw [if_neg hc] at hf
    cases hf
end
section
variable {X : Cx} {K : PySem.W.Frag} {i : Nat} {x : Str} {e : Expr} {te : TE} {pos pos' : Pos}
end
section
variable {X : Cx} {K : PySem.W.Frag} {tg elt iter : Expr} {ifs : List Expr} {scope : Scope} {wi : TI} {g : TG} {tc : TT} {te : TE} {fi : PAs} {bd : D → PEnv → Option PEnv} {pt : PB} {fe : PF}
theorem js_setCompV {pos spos py : Pos} {i : Nat} {y : Str} (vk : PAs → SEnv → Option Sl) (hvk : ∀ {te : TE} {fl : PAs}, PuL K te fl → PuV K te (vk fl)) (own : List Str) (fv : List (Nat × Str)) (hN : X.N.Nodup) (hy : X.N[i]? = some y) (hx : Loc X.env.scope y) (hc : X.calm = true) (hi : JI X K tg iter wi fi) (fo : FvOk X scope fv) (gk : GKeep own.length g)
    (bg : ∀ fp pins s H, JG (cxComp X (own ++ fv.map (·.2)) scope (clF X.env scope.names []) fp pins s H) K tg g bd)
    (bt : ∀ fp pins s H, JTs (cxComp X (own ++ fv.map (·.2)) scope (clF X.env scope.names []) fp pins s H) K ifs tc pt)
    (be : ∀ fp pins s H, JE (cxComp X (own ++ fv.map (·.2)) scope (clF X.env scope.names []) fp pins s H) K elt te fe)
    (kind : scope.kind = .function) (cell : ∀ y ∈ scope.names, y.2 ≠ .cell) (names : ∀ x ∈ scope.names, x.2 = .local → scope.names.lookup x.1 = some .local)
    (free : freeOk X scope = true)
    (hsw : swapsWith (.ListComp elt [⟨tg, iter, ifs, 0⟩] scope pos) (some (.Name y py)) spos.line X.env = pure true)
    (hs : ∀ x, foldedSetIterable iter X.env x = pure x := by intro _; rfl) (hf : X.fn y = true ∨ X.env.scope.names.lookup y = some .local := by first | exact Or.inl rfl | exact Or.inr rfl) :
    JS X K (.Assign [.Name y py] (.ListComp elt [⟨tg, iter, ifs, 0⟩] scope pos) spos) (tAsg (tComp wi g tc te own.length fv) (gName i)) (pSet i (vk (pComp fi bd pt fe own.length (fv.map (·.1))))) :=
  js_set' (ps_setComp own fv hN hy hx hc hi.pe fo gk (fun fp pins s H => (bg fp pins s H).pe) (fun fp pins s H => (bt fp pins s H).pe) (fun fp pins s H => (be fp pins s H).pe) kind cell names free hsw hs hf)
    (hvk (pu_comp hi.pu (bg [] [] X.s₀ X.H₀).pu (bt [] [] X.s₀ X.H₀).pu (be [] [] X.s₀ X.H₀).pu _ _))
def vSL (f : PAs) : SEnv → Option Sl := vS (pOfL f)
theorem pv_SL {te : TE} {fl : PAs} (h : PuL K te fl) : PuV K te (vSL fl) := by
  refine pv_S ?_
  intro O σ H ρ d Q ok er hf q
  have hf' : (fl ρ).map PyData.list = some d := hf
  cases e1 : fl ρ with
  | none => rw [e1] at hf'; cases hf'
  | some ds =>
    rw [e1] at hf'
    cases hf'
    refine h O σ H ρ ds Q ok er e1 fun a xs H' s hn ha r => q _ H' s ?_
    have na : a ∉ O := ok.fresh hn
    exact .lst (SqL.of (by rw [hid_out na]; exact ha)) (r.mono (hid_sub fun b hb => List.mem_cons_of_mem _ hb))
end
section
variable {X : Cx} {K : PySem.W.Frag} {pos : Pos}
theorem js_appS (i : Nat) {x : Str} {e : Expr} {te : TE} {f : PF} {p apos cpos : Pos} (he : JE X K e te f) (hK : X.K = K) (hN : X.N[i]? = some x := by rfl) (hv : Vis X.env.scope x := by first | exact Or.inl rfl | exact Or.inr (Or.inl rfl) | exact Or.inr (Or.inr rfl)) (hd : (x == ("__debug__" : Str)) = false := by decide)
    (hcd : (x == ("__classdict__" : Str)) = false := by decide) (hbase : attributeBase (.Name x p) "append" X.env (eval (.Name x p) X.env) = eval (.Name x p) X.env := by rfl)
    (hfew : ((backTo cpos (starEach [e] X.env)).all (fun x => !x.1) && (backToKw cpos (keywordEach [] X.env)).all (fun x => x.1.isSome)
      && decide ([e].length + ([] : List Keyword).length + (if ([] : List Keyword).isEmpty then 0 else 1) < 30)) = true := by rfl)
    (hline : (apos.endLine == cpos.line) = true := by rfl) (hs : starEach [e] X.env = (false, eval e X.env) :: starEach [] X.env := by rfl) (hplain : (backTo cpos (starEach [] X.env)).any (·.1) = false := by rfl)
    (hs2 : swapsWith (.Call (.Attribute (.Name x p) "append" apos) [e] [] cpos) none pos.line X.env = pure false := by rfl) :
    JS X K (.Expr (.Call (.Attribute (.Name x p) "append" apos) [e] [] cpos) pos) (tDrop (tBM K "list" rAppend (tVar i) (tCons te tNil))) (pApp i (vS f)) := js_app i he.pe (pv_S he.pu) hK hN hv hd hcd hbase hfew hline hs hplain hs2
theorem js_setIS (i : Nat) {x : Str} {e ix : Expr} {te ti : TE} {f fi : PF} {p spos : Pos} (he : JE X K e te f) (hi : JE X K ix ti fi) (hN : X.N[i]? = some x := by rfl) (hv : Vis X.env.scope x := by first | exact Or.inl rfl | exact Or.inr (Or.inl rfl) | exact Or.inr (Or.inr rfl)) (hd : (x == ("__debug__" : Str)) = false := by decide)
    (hcd : (x == ("__classdict__" : Str)) = false := by decide)
    (ha : ∀ v, assign (.Subscript (.Name x p) ix spos) X.env v = (do
      let ov ← holding [v] (eval (.Name x p) X.env)
      let iv ← holding [v, ov] (eval ix X.env)
      standAt spos
      holding [v, ov, iv] (setItem ov iv v)
      release [v, ov, iv] []) := by intro _; rfl)
    (hs : swapsWithSole [.Subscript (.Name x p) ix spos] e pos.line X.env = pure false := by rfl) (hw : swappedStores [.Subscript (.Name x p) ix spos] e X.env = pure none := by rfl)
    (h1 : (assignEach [.Subscript (.Name x p) ix spos] X.env).map (·.2) = [assign (.Subscript (.Name x p) ix spos) X.env] := by rfl) :
    JS X K (.Assign [.Subscript (.Name x p) ix spos] e pos) (tAsg te (gSub (tVar i) ti rSetL)) (pSetI i fi (vS f)) := js_setI i he.pe (pv_S he.pu) hi hN hv hd hcd ha hs hw h1
end
def spLawP (K : PySem.W.Frag) : Sp := fun vs H Q _ => ∃ (a : Addr) (ns : List Int), vs = [.ref a] ∧ SqL K H a (ns.map V.int) ∧ ns.length ≤ 63 ∧ ∀ H', Q (.bl true) H'
theorem rep_ints {K : PySem.W.Frag} {H : Hp} : ∀ ns : List Int, RepAll K H (ns.map V.int) (ns.map PyData.int)
  | [] => .nil
  | n :: r => .cons (.int n) (rep_ints r)
theorem Callee.law {P : Program} {w : World} {K : PySem.W.Frag} {mg : Str → Option Value} {base : Heap} {k : Nat} {x : Str} {ps : List Str} {f : List D → Option D} (C : Callee P w K mg base k x ps (spF K 1 f))
    (h : ∀ ns : List Int, ns.length ≤ 63 → f [.list (ns.map PyData.int)] = some (.bool true)) : Callee P w K mg base k x ps (spLawP K) :=
  C.imp fun vs H Q E ⟨a, ns, e, hq, hl, q⟩ => by
    subst e
    refine ⟨rfl, [], [.list (ns.map PyData.int)], .bool true, OkO.nil, ?_, h ns hl, fun v H' s' r => ?_⟩
    · rw [hid_nil]
      exact .cons (.lst hq (rep_ints ns)) .nil
    · cases r
      exact q H'
end L2
set_option maxHeartbeats 4000000
namespace L2
open PySem PySem.Spec PyProof.Rows
section
variable {X : Cx} {K : PySem.W.Frag}
def rCount (K : PySem.W.Frag) : V → List V → Hp → VK → Prop := fun x vs H Q => ∃ l xs y ds d, x = .ref l ∧ vs = [y] ∧ SqL K H l xs ∧ RepAll K H xs ds ∧ Rep K H y d ∧ shapedAll ds = true ∧ SeqAt.shaped d = true ∧ Q (.int (ds.countP (fun e => PyData.eqv e d) : Nat)) H
theorem mt_count (hu : X.A.units + 66 < cLine) : MtR X "list.count" (rCount X.K) := by
  intro pins s σ H x vs v us Q I rx rv h
  obtain ⟨l, xs, y, ds, d, rfl, rfl, hq, ra, rd, hsa, hsd, q⟩ := h
  cases rx
  obtain ⟨u, rfl, ru⟩ := vals1 rv
  obtain ⟨its, r, pl, hz⟩ := I.list hq
  obtain ⟨⟨cls, dd, data, sl⟩, m, ho, hc, hd, hs⟩ := pl
  simp only at hc hd hs
  subst hc hd hs
  have hl := r.length
  have hl2 := ra.length
  classical
  let e : Value → Bool := fun y => decide (∃ (i : Nat) (d' : D), its[i]? = some y ∧ ds[i]? = some d' ∧ PyData.eqv d' d = true)
  have ee : ∀ (i : Nat) (d' : D) (y' : Value), its[i]? = some y' → ds[i]? = some d' → e y' = PyData.eqv d' d := fun i d' y' h1 h2 => by
    cases hb : PyData.eqv d' d with
    | true => exact decide_eq_true ⟨i, d', h1, h2, hb⟩
    | false =>
      refine decide_eq_false ?_
      rintro ⟨j, d2, g1, g2, g3⟩
      obtain ⟨x1, a1, b1⟩ := ra.get h2
      obtain ⟨x2, a2, b2⟩ := ra.get g2
      obtain ⟨u1, c1, w1⟩ := r.get a1
      obtain ⟨u2, c2, w2⟩ := r.get a2
      rw [h1] at c1
      cases c1
      rw [g1] at c2
      cases c2
      have ex := w1.inj w2
      subst ex
      have := Rep.uniq I b1 b2
      subst this
      rw [hb] at g3
      cases g3
  have hget : ∀ {i : Nat} (hi : i < its.toArray.size), ∃ d', ds[i]? = some d' ∧ its[i]? = some its.toArray[i] := fun {i} hi => by
    have hi' : i < its.length := by simpa using hi
    exact ⟨ds[i], by simp [show i < ds.length by omega], by simp [hi']⟩
  have hmap : its.map e = ds.map (fun d' => PyData.eqv d' d) := by
    apply List.ext_getElem?
    intro i
    rw [List.getElem?_map, List.getElem?_map]
    by_cases hi : i < its.length
    · have h1 : its[i]? = some its[i] := List.getElem?_eq_getElem hi
      have h2 : ds[i]? = some ds[i] := List.getElem?_eq_getElem (by omega)
      rw [h1, h2, Option.map_some, Option.map_some, ee i _ _ h1 h2]
    · rw [List.getElem?_eq_none (by omega), List.getElem?_eq_none (by omega)]
      rfl
  have hcnt : its.toArray.toList.countP e = ds.countP (fun d' => PyData.eqv d' d) := by
    have h1 : (its.map e).countP id = its.countP e := by rw [List.countP_map]; rfl
    have h2 : (ds.map (fun d' => PyData.eqv d' d)).countP id = ds.countP (fun d' => PyData.eqv d' d) := by rw [List.countP_map]; rfl
    show its.countP e = _
    rw [← h1, hmap, h2]
  refine call_meets PySem.F.slot_list_count ⟨_, ho, rfl⟩ PySem.F.entry_list_count (PySem.F.args_list_count_2 _ _) (SeqAt.list_countAt l its.toArray m none sl u e) ⟨ho, ?_, ?_⟩
  · intro y' hy'
    obtain ⟨i, hi', rfl⟩ := Array.mem_iff_getElem.mp hy'
    obtain ⟨d', h1, h2⟩ := hget hi'
    rw [ee i d' _ h2 h1]
    obtain ⟨x1, a1, b1⟩ := ra.get h1
    obtain ⟨u1, c1, w1⟩ := r.get a1
    rw [h2] at c1
    cases c1
    have sh1 : SeqAt.shaped d' = true := List.all_eq_true.mp hsa d' (List.mem_of_getElem? h1)
    obtain ⟨as, rd1⟩ := b1.reads I (Bool.and_eq_true_iff.mp sh1).1 w1
    obtain ⟨bs, rd2⟩ := rd.reads I (Bool.and_eq_true_iff.mp hsd).1 ru
    intro prog w E Q' hQ'
    refine SeqAt.eqBoolOverData prog w _ E s _ _ d' d as bs Q' rd1 rd2 (SeqAt.canLay_of_shaped sh1) (SeqAt.canLay_of_shaped hsd) ?_ hQ'
    have := SeqAt.depth_of_shaped sh1
    have h3 : min d'.depth d.depth ≤ d'.depth := Nat.min_le_left _ _
    show X.A.in1.units + _ < cLine
    have h4 : X.A.in1.units = X.A.units + 1 := rfl
    omega
  · rw [hcnt]
    exact ⟨.int _, H, I.tok _, ⟨_, rfl⟩, q⟩
def gCount (l d : D) : Option D := (asL l).bind fun ds => if shapedAll ds = true ∧ SeqAt.shaped d = true then some (.int (ds.countP (fun e => PyData.eqv e d) : Nat)) else none
theorem je_count {o e : Expr} {to te : TE} {fo fe : PF} {apos cpos : Pos} (hK : X.K = K) (hu : X.A.units + 66 < cLine) (ho : JE X K o to fo) (he : JE X K e te fe)
    (hbase : attributeBase o "count" X.env (eval o X.env) = eval o X.env := by rfl)
    (hfew : ((backTo cpos (starEach [e] X.env)).all (fun x => !x.1) && (backToKw cpos (keywordEach [] X.env)).all (fun x => x.1.isSome)
      && decide ([e].length + ([] : List Keyword).length + (if ([] : List Keyword).isEmpty then 0 else 1) < 30)) = true := by rfl)
    (hline : (apos.endLine == cpos.line) = true := by rfl) (hs : starEach [e] X.env = (false, eval e X.env) :: starEach [] X.env := by rfl) (hplain : (backTo cpos (starEach [] X.env)).any (·.1) = false := by rfl) :
    JE X K (.Call (.Attribute o "count" apos) [e] [] cpos) (tBM K "list" (rCount K) to (tCons te tNil)) (pOp gCount fo fe) := ⟨by
  subst hK
  exact pe_bm PySem.F.plainAttrs_list PySem.F.slot_list_count PySem.F.type_list_count (mt_count hu) ho.pe (pa_cons he.pe pa_nil hs) hbase hfew hline hs hplain, by
  intro O σ H ρ d Q ok er hf q
  obtain ⟨x, e1, hf⟩ := bind_some' hf
  obtain ⟨y, e2, hf⟩ := bind_some' hf
  obtain ⟨ds, e3, hf⟩ := bind_some' hf
  by_cases hc : shapedAll ds = true ∧ SeqAt.shaped y = true
  · rw [if_pos hc] at hf
    cases hf
    refine ho.pu O σ H ρ x _ ok er e1 fun v H1 s1 r1 => ?_
    cases r1 with
    | lst hq r' =>
      cases e3
      refine ⟨.inl ⟨rfl, _, hid_le.seq hq⟩, ?_⟩
      refine he.pu O σ H1 ρ y _ (ok.mono s1) (er.hid s1) e2 fun u H2 s2 r2 => ?_
      exact ⟨_, _, u, ds, y, rfl, rfl, (hid_le.trans s2).seq hq, r'.mono (hid_le.trans s2), r2.mono hid_le, hc.1, hc.2, q _ H2 (s1.trans s2) (.int _)⟩
    | _ => cases e3
  · rw [if_neg hc] at hf
    cases hf⟩
theorem RepAll.eraseIdx {H : Hp} : ∀ {xs : List V} {ds : List D} (k : Nat), RepAll K H xs ds → RepAll K H (xs.eraseIdx k) (ds.eraseIdx k)
  | _, _, _, .nil => .nil
  | _, _, 0, .cons _ b => b
  | _, _, k + 1, .cons a b => .cons a (RepAll.eraseIdx k b)
end
end L2
set_option maxHeartbeats 4000000
namespace L2
open PySem PySem.Spec PyProof.Rows
theorem zip_len0 : typeLookup (.type "zip") "__len__" = pure none := by rw [typeLookup_type, builtinLookup_eq_fast]; kernel_rfl
theorem zip_hint0 : typeLookup (.type "zip") "__length_hint__" = pure none := by rw [typeLookup_type, builtinLookup_eq_fast]; kernel_rfl
def ZipF (h : Heap) (z TI TO : Addr) (f0 : Value) (f1 : Bool) : Prop := h.get? z = some { cls := .type "zip", dict := none, data := .fields #[f0, .bool f1, .bool false, .ref TI, .ref TO], slots := #[] }
section
variable {prog : Program} {w : World} {A : Around} {E : Value → Shared → Prop} {s : Shared} {z TI TO i1 i2 l1 l2 T : Addr} {f : Bool} {oT : Obj}
theorem alive_of {a : Addr} {o : Obj} {Q : Option Obj → Shared → Prop} (ho : s.heap.get? a = some o) (h : Q (some o) s) : wpAny (model prog w) A (loadIfAlive a) Q E s := PySem.W.kdx_alive ho h
theorem owned_out {Q : Bool → Shared → Prop} (hz : ZipF s.heap z TI TO (rawInt T) f) (hT : s.heap.get? T = some oT)
    (hQ : ∀ h', ZipF h' z TI TO (rawInt T) true → Heap.SameBut z s.heap h' → Q false { s with heap := h' }) : wpAny (model prog w) A (Builtin.SmallTypes.ownedTupleIsFree (.ref z)) Q E s := by
  unfold Builtin.SmallTypes.ownedTupleIsFree
  refine wpAny_bind (wpAny_field hz rfl (x := rawInt T) rfl ?_)
  show wpAny _ _ (loadIfAlive ((T : Int).toNat) >>= _) _ _ s
  rw [Int.toNat_natCast]
  refine wpAny_bind (alive_of hT ?_)
  simp only [Option.isNone_some, Bool.false_eq_true, if_false]
  refine wpAny_bind (wpAny_field hz rfl (x := .bool f) rfl ?_)
  cases f with
  | true =>
    rw [if_neg (show ¬ ((Value.bool true != Value.bool true) = true) from Bool.false_ne_true)]
    exact wpAny_pure (hQ s.heap hz (Heap.SameBut.refl _ _))
  | false =>
    rw [if_pos (show (Value.bool false != Value.bool true) = true from rfl)]
    exact wpAny_bind (wpAny_setField_rec hz (by simp) fun h' hz' hs' => wpAny_pure (hQ h' hz' hs'))
theorem zip_more {k : Nat} {xs ys : Array Value} {x y : Value} {Q : Value → Shared → Prop} (D : ZipApart z TI TO i1 i2 l1 l2) (hz : ZipF s.heap z TI TO (rawInt T) f) (hT : s.heap.get? T = some oT)
    (hTI : IsPair s.heap TI (.ref i1) (.ref i2)) (h1 : s.heap.IsListIter i1 l1 k) (h2 : s.heap.IsListIter i2 l2 k) (hl1 : s.heap.IsList l1 xs) (hl2 : s.heap.IsList l2 ys) (hx : xs[k]? = some x) (hy : ys[k]? = some y)
    (hQ : ∀ h', ZipF h' z TI TO (rawInt T) true → h'.IsListIter i1 l1 (k + 1) → h'.IsListIter i2 l2 (k + 1) → IsPair h' s.heap.objs.size x y → h'.objs.size = s.heap.objs.size + 1 →
      (∀ c o, c ≠ z → c ≠ i1 → c ≠ i2 → s.heap.get? c = some o → h'.get? c = some o) → Q (.ref s.heap.objs.size) { s with heap := h' }) :
    wpAny (model prog w) A (Builtin.«zip.__next__» ⟨[.ref z], []⟩) (fun fin s' => ∃ v, fin = .done (.ret v) ∧ Q v s') E s := by
  show wpAny _ _ (field (.ref z) 2 >>= _) _ _ s
  refine wpAny_bind (wpAny_field hz rfl (x := .bool false) rfl ?_)
  show wpAny _ _ (field (.ref z) 3 >>= _) _ _ s
  refine wpAny_bind (wpAny_field hz rfl (x := .ref TI) rfl (wpAny_bind (wpAny_seqItems hTI rfl ?_)))
  show wpAny _ _ (Builtin.SmallTypes.ownedTupleIsFree (.ref z) >>= _) _ _ s
  refine wpAny_bind (owned_out hz hT fun g hzg hsg => ?_)
  simp only [Bool.false_eq_true, if_false]
  refine wpAny_bind ?_
  rw [← Array.forIn_toList]
  simp only [List.forIn_cons, List.forIn_nil]
  refine wpAny_bind (wpAny_bind (wpAny_holding ?_))
  show wpAny _ _ (Builtin.SmallTypes.nextOf (.ref i1) >>= _) _ _ _
  refine wpAny_bind (wpAny_nextOf_list_item (h1.extBut hsg.extBut D.i1z) (hl1.extBut hsg.extBut D.l1z) hx fun g1 hi1 hs1 => wpAny_pure (wpAny_pure ?_))
  refine wpAny_bind (wpAny_bind (wpAny_holding ?_))
  show wpAny _ _ (Builtin.SmallTypes.nextOf (.ref i2) >>= _) _ _ _
  refine wpAny_bind (wpAny_nextOf_list_item ((h2.extBut hsg.extBut D.i2z).extBut hs1.extBut D.i12.symm) ((hl2.extBut hsg.extBut D.l2z).extBut hs1.extBut D.l2i1) hy fun g2 hi2 hs2 => wpAny_pure (wpAny_pure (wpAny_pure ?_)))
  refine wpAny_bind (wpAny_newTuple (hsz := by show 2 ≤ sizeLine; decide) (wpAny_pure ⟨_, rfl, ?_⟩))
  have hsz : g2.objs.size = s.heap.objs.size := by rw [hs2.1, hs1.1, hsg.1]
  show Q (.ref g2.objs.size) _
  rw [hsz]
  refine hQ _ (Heap.get?_push_of_some _ (hs2.extBut _ _ D.i2z.symm (hs1.extBut _ _ D.i1z.symm hzg))) ((hi1.extBut hs2.extBut D.i12).at fun o e => Heap.get?_push_of_some _ e) (hi2.at fun o e => Heap.get?_push_of_some _ e) ?_ (by rw [Heap.size_push, hsz])
    fun c o c1 c2 c3 e => Heap.get?_push_of_some _ (hs2.extBut _ _ c3 (hs1.extBut _ _ c2 (hsg.extBut _ _ c1 e)))
  rw [← hsz]
  exact Heap.get?_push_size _ rfl
theorem zip_over {k : Nat} {xs ys : Array Value} {Q : Fin → Shared → Prop} (hh : A.handled = none) (D : ZipApart z TI TO i1 i2 l1 l2) (hz : ZipF s.heap z TI TO (rawInt T) f) (hT : s.heap.get? T = some oT)
    (hTI : IsPair s.heap TI (.ref i1) (.ref i2)) (h1 : s.heap.IsListIter i1 l1 k) (h2 : s.heap.IsListIter i2 l2 k) (hl1 : s.heap.IsList l1 xs) (hl2 : s.heap.IsList l2 ys) (hend : xs[k]? = none ∨ ys[k]? = none)
    (hE : ∀ h' e, (∀ c o, c ≠ z → c ≠ i1 → c ≠ i2 → s.heap.get? c = some o → h'.get? c = some o) → (∃ o, h'.get? e = some o ∧ o.cls = .type "StopIteration") → E (.ref e) { s with heap := h' }) :
    wpAny (model prog w) A (Builtin.«zip.__next__» ⟨[.ref z], []⟩) Q E s := by
  show wpAny _ _ (field (.ref z) 2 >>= _) _ _ s
  refine wpAny_bind (wpAny_field hz rfl (x := .bool false) rfl ?_)
  show wpAny _ _ (field (.ref z) 3 >>= _) _ _ s
  refine wpAny_bind (wpAny_field hz rfl (x := .ref TI) rfl (wpAny_bind (wpAny_seqItems hTI rfl ?_)))
  show wpAny _ _ (Builtin.SmallTypes.ownedTupleIsFree (.ref z) >>= _) _ _ s
  refine wpAny_bind (owned_out hz hT fun g hzg hsg => ?_)
  simp only [Bool.false_eq_true, if_false]
  refine wpAny_bind ?_
  rw [← Array.forIn_toList]
  simp only [List.forIn_cons, List.forIn_nil]
  refine wpAny_bind (wpAny_bind (wpAny_holding ?_))
  show wpAny _ _ (Builtin.SmallTypes.nextOf (.ref i1) >>= _) _ _ _
  cases hx : xs[k]? with
  | none =>
    exact wpAny_bind (wpAny_nextOf_list_end hh (h1.extBut hsg.extBut D.i1z) (hl1.extBut hsg.extBut D.l1z) hx fun g1 e hs1 he => hE g1 e (fun c o c1 c2 _ q => hs1 _ _ c2 (hsg.extBut _ _ c1 q)) he)
  | some x =>
    have hy : ys[k]? = none := by
      rcases hend with h | h
      · rw [hx] at h; cases h
      · exact h
    refine wpAny_bind (wpAny_nextOf_list_item (h1.extBut hsg.extBut D.i1z) (hl1.extBut hsg.extBut D.l1z) hx fun g1 hi1 hs1 => wpAny_pure (wpAny_pure ?_))
    refine wpAny_bind (wpAny_bind (wpAny_holding ?_))
    show wpAny _ _ (Builtin.SmallTypes.nextOf (.ref i2) >>= _) _ _ _
    exact wpAny_bind (wpAny_nextOf_list_end hh ((h2.extBut hsg.extBut D.i2z).extBut hs1.extBut D.i12.symm) ((hl2.extBut hsg.extBut D.l2z).extBut hs1.extBut D.l2i1) hy fun g2 e hs2 he =>
      hE g2 e (fun c o c1 c2 c3 q => hs2 _ _ c3 (hs1.extBut _ _ c2 (hsg.extBut _ _ c1 q))) he)
def ZipS (h : Heap) (z TI TO i1 i2 l1 l2 : Addr) (i : Nat) : Prop :=
  IsPair h TI (.ref i1) (.ref i2) ∧ (∃ a b, IsPair h TO a b) ∧ h.IsListIter i1 l1 i ∧ h.IsListIter i2 l2 i ∧ (IsZip h z TI TO .none ∨ ∃ (T : Addr) (f : Bool) (oT : Obj), ZipF h z TI TO (rawInt T) f ∧ h.get? T = some oT ∧ T ≠ z ∧ T ≠ TI ∧ T ≠ TO ∧ T ≠ i1 ∧ T ≠ i2)
theorem zipS_item {k : Nat} {xs ys : Array Value} {x y : Value} {Q : Option Value → Shared → Prop} (D : ZipApart z TI TO i1 i2 l1 l2) (hS : ZipS s.heap z TI TO i1 i2 l1 l2 k) (hl1 : s.heap.IsList l1 xs) (hl2 : s.heap.IsList l2 ys) (hx : xs[k]? = some x) (hy : ys[k]? = some y)
    (hQ : ∀ h', ZipS h' z TI TO i1 i2 l1 l2 (k + 1) → IsPair h' s.heap.objs.size x y → h'.objs.size = s.heap.objs.size + 1 →
      (∀ c o, c ≠ z → c ≠ TO → c ≠ i1 → c ≠ i2 → s.heap.get? c = some o → h'.get? c = some o) → Q (some (.ref s.heap.objs.size)) { s with heap := h' }) : wpAny (model prog w) A (pyNext (.ref z)) Q E s := by
  obtain ⟨hTI, ⟨a, b, hTO⟩, h1, h2, hz⟩ := hS
  have nz : ∀ {c o}, s.heap.get? c = some o → s.heap.objs.size ≠ c := fun e => Nat.ne_of_gt (Heap.lt_size e)
  have n1 : s.heap.objs.size ≠ i1 := by obtain ⟨_, e, _⟩ := h1; exact nz e
  have n2 : s.heap.objs.size ≠ i2 := by obtain ⟨_, e, _⟩ := h2; exact nz e
  rcases hz with hz | ⟨T, f, oT, hz, hT, d1, d2, d3, d4, d5⟩
  · refine wpAny_pyNext_zip_item D hz hTI hTO h1 h2 hl1 hl2 hx hy fun h' a1 a2 a3 a4 a5 a6 hk => hQ h' ⟨hk _ _ D.TIz D.TITO D.TIi1 D.TIi2 hTI, ⟨_, _, a2⟩, a3, a4, .inr ⟨s.heap.objs.size, false, _, a1, a5, nz hz, nz hTI, nz hTO, n1, n2⟩⟩ a5 a6 hk
  · have ht : s.TypeIs (.ref z) "zip" := ⟨_, hz, rfl⟩
    unfold pyNext
    refine wpAny_bind (wpAny_attempt (wpAny_callSpecial?_slot (name := Str.ofString "__next__") ht PySem.F.slot_zip_next (wpAny_call_entry PySem.F.slot_zip_next ht PySem.F.entry_zip_next
      (zip_more D hz hT hTI h1 h2 hl1 hl2 hx hy fun h' a1 a2 a3 a4 a5 hk => wpAny_pure (hQ h' ?_ a4 a5 fun c o c1 _ c3 c4 e => hk c o c1 c3 c4 e)) (PySem.F.args_zip_next_1 _))))
    exact ⟨hk _ _ D.TIz D.TIi1 D.TIi2 hTI, ⟨_, _, hk _ _ D.TOz D.TOi1 D.TOi2 hTO⟩, a2, a3, .inr ⟨T, true, oT, a1, hk _ _ d1 d4 d5 hT, d1, d2, d3, d4, d5⟩⟩
theorem zipS_end {k : Nat} {xs ys : Array Value} {Q : Option Value → Shared → Prop} (hh : A.handled = none) (D : ZipApart z TI TO i1 i2 l1 l2) (hS : ZipS s.heap z TI TO i1 i2 l1 l2 k) (hl1 : s.heap.IsList l1 xs) (hl2 : s.heap.IsList l2 ys) (hend : xs[k]? = none ∨ ys[k]? = none)
    (hQ : ∀ h', (∀ c o, c ≠ z → c ≠ TO → c ≠ i1 → c ≠ i2 → s.heap.get? c = some o → h'.get? c = some o) → Q none { s with heap := h' }) : wpAny (model prog w) A (pyNext (.ref z)) Q E s := by
  obtain ⟨hTI, ⟨a, b, hTO⟩, h1, h2, hz⟩ := hS
  rcases hz with hz | ⟨T, f, oT, hz, hT, d1, d2, d3, d4, d5⟩
  · exact wpAny_pyNext_zip_end hh D hz hTI hTO h1 h2 hl1 hl2 hend hQ
  · have ht : s.TypeIs (.ref z) "zip" := ⟨_, hz, rfl⟩
    unfold pyNext
    refine wpAny_bind (wpAny_attempt (wpAny_callSpecial?_slot (name := Str.ofString "__next__") ht PySem.F.slot_zip_next (wpAny_call_entry PySem.F.slot_zip_next ht PySem.F.entry_zip_next
      (zip_over hh D hz hT hTI h1 h2 hl1 hl2 hend fun h' e hk he => ?_) (PySem.F.args_zip_next_1 _))))
    obtain ⟨o, ho, hc⟩ := he
    exact wpAny_bind (wpAny_isInstance (T := "StopIteration") (b := true) ⟨o, ho, hc⟩ isSubtype_stop (wpAny_pure (hQ _ fun c o c1 _ c3 c4 e => hk c o c1 c3 c4 e)))
end
theorem ZipS.typ {z TI TO i1 i2 l1 l2 : Addr} {i : Nat} {s : Shared} (h : ZipS s.heap z TI TO i1 i2 l1 l2 i) : s.TypeIs (.ref z) "zip" := by
  obtain ⟨_, _, _, _, hz | ⟨T, f, oT, hz, _⟩⟩ := h
  · exact ⟨_, hz, rfl⟩
  · exact ⟨_, hz, rfl⟩
theorem ZipS.at {z TI TO i1 i2 l1 l2 S : Addr} {i : Nat} {h h' : Heap} (st : ZipS h z TI TO i1 i2 l1 l2 i) (k : ∀ c o, c ≠ S → h.get? c = some o → h'.get? c = some o) (hS : ∃ o, h'.get? S = some o) (n0 : z ≠ S) (n1 : TI ≠ S) (n2 : TO ≠ S) (n3 : i1 ≠ S) (n4 : i2 ≠ S) : ZipS h' z TI TO i1 i2 l1 l2 i := by
  obtain ⟨hTI, ⟨a, b, hTO⟩, h1, h2, hz⟩ := st
  refine ⟨k _ _ n1 hTI, ⟨a, b, k _ _ n2 hTO⟩, h1.at fun o e => k _ o n3 e, h2.at fun o e => k _ o n4 e, ?_⟩
  rcases hz with hz | ⟨T, f, oT, hz, hT, d⟩
  · exact .inl (k _ _ n0 hz)
  · by_cases e : T = S
    · subst e
      obtain ⟨o, ho⟩ := hS
      exact .inr ⟨T, f, o, k _ _ n0 hz, ho, d⟩
    · exact .inr ⟨T, f, oT, k _ _ n0 hz, k _ _ e hT, d⟩
def Zipped (H1 H2 : Hp) (xs ys zs : List V) : Prop := ∀ (i : Nat) (v : V), zs[i]? = some v → ∃ p x y, v = .ref p ∧ H1 p = none ∧ H2 p = some (.tup [x, y]) ∧ xs[i]? = some x ∧ ys[i]? = some y
section
variable {X : Cx} {pins : List (Addr × Obj)} {σ : St} {H1 : Hp} {z TI TO i1 i2 a b S : Addr} {xs ys : List V}
theorem zip_walk {A : Around} (hh : A.handled = none) (D : ZipApart z TI TO i1 i2 a b) {res : Value} {R : Result → Shared → Prop} (hS1 : H1 S = none) (hqa : SqL X.K H1 a xs) (hqb : SqL X.K H1 b ys)
    (hR : ∀ H2 s' zs, Inv X pins σ H2 s' → Same H1 H2 → H2 S = some (.lst zs) → zs.length = min xs.length ys.length → Zipped H1 H2 xs ys zs → R (.ok (.ret res)) s') :
    ∀ (k i : Nat) (s : Shared) (H2 : Hp) (zs : List V), min xs.length ys.length - i = k → i ≤ min xs.length ys.length → Inv X pins σ H2 s → Same H1 H2 → (∀ c ∈ [z, TI, TO, i1, i2], FpOk X pins H2 c) → ZipS s.heap z TI TO i1 i2 a b i →
      H2 S = some (.lst zs) → zs.length = i → Zipped H1 H2 xs ys zs → codeAny (model X.prog X.w) A (.builtin "list.extend.loop" ⟨[.ref S, .ref z, res], []⟩) R s := by
  intro k
  induction k with
  | zero =>
    intro i s H2 zs hk hi I sm hf st hS hl hzz
    obtain ⟨its, rv, p, hz⟩ := I.list (sm.seq hqa)
    obtain ⟨jts, rw', p', hz'⟩ := I.list (sm.seq hqb)
    have e1 := rv.length
    have e2 := rw'.length
    refine codeAny_builtin PySem.F.entry_extend_loop ?_
    rw [Around.under_plainId PySem.F.plain_extend_loop _]
    show wpAny _ A.in1 (pyNext (.ref z) >>= _) _ _ s
    refine wpAny_bind (zipS_end (A := A.in1) hh D st p.isList p'.isList (by
      by_cases hc : i < xs.length
      · exact .inr (by simp; omega)
      · exact .inl (by simp; omega)) fun g hkk => wpAny_pure (hR H2 _ zs (I.turnedL (t' := s.toks) (ch := [z, TI, TO, i1, i2]) hf fun c o hc q => hkk c o (fun e => hc (by simp [e])) (fun e => hc (by simp [e])) (fun e => hc (by simp [e])) (fun e => hc (by simp [e])) q) sm hS (by omega) hzz))
  | succ k ih =>
    intro i s H2 zs hk hi I sm hf st hS hl hzz
    obtain ⟨its, rv, p, hz⟩ := I.list (sm.seq hqa)
    obtain ⟨jts, rw', p', hz'⟩ := I.list (sm.seq hqb)
    have hix : i < xs.length := by omega
    have hiy : i < ys.length := by omega
    obtain ⟨u, hu, ru⟩ := rv.get (show xs[i]? = some xs[i] by simp [hix])
    obtain ⟨v, hv, rv2⟩ := rw'.get (show ys[i]? = some ys[i] by simp [hiy])
    refine codeAny_builtin PySem.F.entry_extend_loop ?_
    rw [Around.under_plainId PySem.F.plain_extend_loop _]
    show wpAny _ A.in1 (pyNext (.ref z) >>= _) _ _ s
    refine wpAny_bind (zipS_item (A := A.in1) D st p.isList p'.isList (x := u) (y := v) (by simpa using hu) (by simpa using hv) fun g st' hP hsz hkk => ?_)
    have hp0 : H2 s.heap.objs.size = none := I.hok.fresh (Nat.le_refl _)
    have I2 : Inv X pins σ (upd H2 s.heap.objs.size (.tup [xs[i], ys[i]])) { s with heap := g, toks := s.toks } := I.turnedNew (ch := [z, TI, TO, i1, i2]) hf (fun c o hb q => hkk c o (fun e => hb (by simp [e])) (fun e => hb (by simp [e])) (fun e => hb (by simp [e])) (fun e => hb (by simp [e])) q)
      (Nat.le_refl _) ⟨by show 2 ≤ sizeLine; decide, [u, v], .cons ru (.cons rv2 .nil), _, hP, rfl, _, rfl⟩
    have hSn : S ≠ s.heap.objs.size := ne_of_none hS hp0
    have hS2 : (upd H2 s.heap.objs.size (.tup [xs[i], ys[i]])) S = some (.lst zs) := by rw [upd_ne hSn]; exact hS
    obtain ⟨z0, its0, n0, r0, hl0, e0⟩ := I2.lstM hS2
    have hsl : sizeLine = 16777216 := sizeLine_eq
    have hN : ∀ c ∈ [z, TI, TO, i1, i2], c ≠ S ∧ c ≠ s.heap.objs.size := fun c hc => by
      refine ⟨fun e => ?_, fun e => ?_⟩
      · have := (hf c hc).1
        rw [e, hS] at this
        cases this
      · obtain ⟨hTI, ⟨a', b', hTO⟩, h1, h2, hzst⟩ := st
        have lt : c < s.heap.objs.size := by
          simp only [List.mem_cons, List.not_mem_nil, or_false] at hc
          rcases hc with rfl | rfl | rfl | rfl | rfl
          · rcases hzst with q | ⟨_, _, _, q, _⟩
            · exact Heap.lt_size q
            · exact Heap.lt_size q
          · exact Heap.lt_size hTI
          · exact Heap.lt_size hTO
          · obtain ⟨_, q, _⟩ := h1; exact Heap.lt_size q
          · obtain ⟨_, q, _⟩ := h2; exact Heap.lt_size q
        exact absurd lt (by rw [e]; exact Nat.lt_irrefl _)
    have I3 := I2.lset (t' := s.toks) (f := (·.push (.ref s.heap.objs.size))) (its' := its0 ++ [.ref s.heap.objs.size]) (ys := zs ++ [.ref s.heap.objs.size]) hS2 e0 (by simp) (r0.append (.cons (show RelV (V.ref s.heap.objs.size) (Value.ref s.heap.objs.size) from rfl) .nil)) (by rw [List.length_append, List.length_singleton]; omega)
    show wpAny _ A.in1 (updateSeq S (·.push (.ref s.heap.objs.size)) >>= _) _ _ _
    refine wpAny_bind (wpAny_updateSeq e0 rfl (wpAny_pure ⟨plainId_quiet PySem.F.plain_extend_loop _, ih (i + 1) _ _ (zs ++ [.ref s.heap.objs.size]) (by omega) (by omega) I3 ?_ ?_ ?_ upd_same (by simp [hl]) ?_⟩) (by rw [List.size_toArray]; omega) (by show (its0.toArray.push _).size ≤ sizeLine + 1; rw [Array.size_push, List.size_toArray]; omega))
    · intro c o e
      have n1 : c ≠ S := ne_of_none e hS1
      rw [upd_ne n1, upd_ne (ne_of_none (sm c o e) hp0)]
      exact sm c o e
    · intro c hc
      obtain ⟨m1, m2⟩ := hN c hc
      refine ⟨?_, (hf c hc).2⟩
      rw [upd_ne m1, upd_ne m2]
      exact (hf c hc).1
    · exact st'.at (S := S) (fun c o hc e => (Heap.get?_update_other _ _ (Ne.symm hc)).trans e) ⟨_, Heap.get?_update_self _ e0 rfl⟩ (hN z (by simp)).1 (hN TI (by simp)).1 (hN TO (by simp)).1 (hN i1 (by simp)).1 (hN i2 (by simp)).1
    · intro j v' hj
      rw [List.getElem?_append] at hj
      split at hj
      · obtain ⟨p2, x, y, rfl, q1, q2, q3, q4⟩ := hzz j v' hj
        refine ⟨p2, x, y, rfl, q1, ?_, q3, q4⟩
        have m1 : p2 ≠ S := fun e => by rw [e, hS] at q2; cases q2
        rw [upd_ne m1, upd_ne (ne_of_none q2 hp0)]
        exact q2
      · have hj' : j - zs.length = 0 := by
          rcases Nat.eq_zero_or_pos (j - zs.length) with q | q
          · exact q
          · rw [List.getElem?_eq_none (by simp; omega)] at hj
            cases hj
        rw [hj'] at hj
        cases hj
        have : j = i := by omega
        subst this
        refine ⟨s.heap.objs.size, xs[j], ys[j], rfl, ?_, by rw [upd_ne hSn.symm, upd_same], by simp [hix], by simp [hiy]⟩
        cases hc : H1 s.heap.objs.size with
        | none => rfl
        | some o => rw [sm _ _ hc] at hp0; cases hp0
theorem call_list_zip {s : Shared} {Q : Value → Shared → Prop} {E : Value → Shared → Prop} (hh : X.A.handled = none) (I : Inv X pins σ H1 s) (D : ZipApart z TI TO i1 i2 a b) (st : ZipS s.heap z TI TO i1 i2 a b 0) (hf : ∀ c ∈ [z, TI, TO, i1, i2], FpOk X pins H1 c)
    (hlt : ∀ c ∈ [z, TI, TO, i1, i2], c < s.heap.objs.size) (hqa : SqL X.K H1 a xs) (hqb : SqL X.K H1 b ys)
    (hQ : ∀ S H2 s' zs, Inv X pins σ H2 s' → Same H1 H2 → H1 S = none → H2 S = some (.lst zs) → zs.length = min xs.length ys.length → Zipped H1 H2 xs ys zs → Q (.ref S) s') :
    wpAny (model X.prog X.w) X.A (call (.type "list") [.ref z]) Q E s := by
  refine callType_codes (Q₁ := fun obj s₁ => obj = .ref s.heap.objs.size ∧ s₁ = { s with heap := s.heap.push { cls := .type "list", data := .seq #[] } }) PySem.F.called_list (PySem.F.typeCall_list_1 _) PySem.F.entry_list_init (code_list_new _ ⟨rfl, rfl⟩) fun obj s₁ h₁ => ?_
  obtain ⟨rfl, rfl⟩ := h₁
  have hp0 : H1 s.heap.objs.size = none := I.hok.fresh (Nat.le_refl _)
  have I1 : Inv X pins σ (upd H1 s.heap.objs.size (.lst [])) { s with heap := s.heap.push { cls := .type "list", data := .seq ([] : List Value).toArray }, toks := s.toks } := I.lnew .nil (Nat.zero_le _)
  have hN : ∀ c ∈ [z, TI, TO, i1, i2], c ≠ s.heap.objs.size := fun c hc => Nat.ne_of_lt (hlt c hc)
  generalize hSg : s.heap.objs.size = S at I1 hp0 hN
  obtain ⟨z1, its1, n1, r1, hl1, e1⟩ := I1.lstM upd_same
  have its1n : its1 = [] := by cases r1; rfl
  subst its1n
  have hSn : z ≠ S := hN z (by simp)
  have st1 : ZipS (s.heap.push { cls := .type "list", data := .seq ([] : List Value).toArray }) z TI TO i1 i2 a b 0 := st.at (S := S) (fun c o _ e => Heap.get?_push_of_some _ e) ⟨_, e1⟩ hSn (hN TI (by simp)) (hN TO (by simp)) (hN i1 (by simp)) (hN i2 (by simp))
  refine ⟨⟨_, e1, rfl⟩, PySem.F.args_list_init_2 _ _, ?_⟩
  show wpAny _ _ (do let old ← Builtin.List.listItems (.ref S); Builtin.List.listUpdate (.ref S) (fun _ => #[]); letGo old.toList.reverse; Builtin.List.listExtendWith (.ref S) (.ref z) .none) _ _ _
  unfold Builtin.List.listItems
  refine wpAny_bind (wpAny_bind (wpAny_seqItems e1 rfl (wpAny_pure ?_)))
  show wpAny _ _ (updateSeq S (fun _ => #[]) >>= fun _ => letGo _ >>= fun _ => Builtin.List.listExtendWith (.ref S) (.ref z) .none) _ _ _
  refine wpAny_bind (wpAny_updateSeq e1 rfl ?_)
  have I2 := I1.lset (t' := s.toks) (f := fun _ => #[]) (its' := []) upd_same e1 rfl .nil (Nat.zero_le _)
  have st2 := st1.at (S := S) (h' := (s.heap.push { cls := .type "list", data := .seq ([] : List Value).toArray }).update S (Obj.mapSeq fun _ => #[])) (fun c o hc e => (Heap.get?_update_other _ _ (Ne.symm hc)).trans e) ⟨_, Heap.get?_update_self _ e1 rfl⟩ hSn (hN TI (by simp)) (hN TO (by simp)) (hN i1 (by simp)) (hN i2 (by simp))
  obtain ⟨z2, its2, n2, r2, hl2, e2⟩ := I2.lstM upd_same
  have its2n : its2 = [] := by cases r2; rfl
  subst its2n
  refine wpAny_bind (wpAny_letGo ?_)
  unfold Builtin.List.listExtendWith
  refine wpAny_bind (wpAny_typeOf (T := "zip") (ZipS.typ (s := { s with heap := _, toks := _ }) st2) ?_)
  have q1 : Builtin.List.listSameRef (.ref S) (.ref z) = false := by simp [Builtin.List.listSameRef, hSn.symm]
  have q2 : (Value.type "zip" == Value.type "list") = false := by decide
  have q3 : (Value.type "zip" == Value.type "tuple") = false := by decide
  simp only [q1, q2, q3, Bool.or_false, Bool.false_eq_true, if_false]
  refine wpAny_bind ?_
  have self : ∀ {A : Around} {Q : Value → Shared → Prop} {E : Value → Shared → Prop} {s : Shared}, ZipS s.heap z TI TO i1 i2 a b 0 → Q (.ref z) s → wpAny (model X.prog X.w) A (pyIter (.ref z)) Q E s := fun {A Q E s} sz hq => by
    obtain ⟨_, _, _, _, hz | ⟨T, f, oT, hz, _⟩⟩ := sz
    · exact wpAny_pyIter_zip hz hq
    · refine wpAny_pyIter_slot ⟨_, hz, rfl⟩ PySem.F.slot_zip_iter (wpAny_call_entry PySem.F.slot_zip_iter ⟨_, hz, rfl⟩ PySem.F.entry_zip_iter ?_ (PySem.F.args_zip_iter_1 _))
      exact wpAny_pure ⟨_, rfl, "zip", _, ⟨_, hz, rfl⟩, PySem.F.slot_zip_next.lookup, hq⟩
  refine self st2 (wpAny_bind (wpAny_holding ?_))
  unfold Builtin.List.listLengthHint
  refine wpAny_bind (wpAny_specialOf (ZipS.typ (s := { s with heap := _, toks := _ }) st2) zip_len0 ?_)
  show wpAny _ _ (specialOf (Value.ref z) (Str.ofString "__length_hint__") >>= _) _ _ _
  refine wpAny_bind (wpAny_specialOf (ZipS.typ (s := { s with heap := _, toks := _ }) st2) zip_hint0 (wpAny_pure ?_))
  show wpAny _ _ (rule "list.extend.makes-room" >>= fun _ => Builtin.List.listTouch (.ref S) >>= fun _ => again (.builtin "list.extend.loop" ⟨[.ref S, .ref z, .none], []⟩)) _ _ _
  refine wpAny_bind (wpAny_rule (wpAny_bind ?_))
  show wpAny _ _ (updateSeq S (·.push .none) >>= fun _ => updateSeq S (·.pop)) _ _ _
  refine wpAny_bind (wpAny_updateSeq e2 rfl ?_)
  have I3 := I2.lset (t' := s.toks) (f := (·.push .none)) (its' := [.none]) (ys := [.non]) upd_same e2 (by simp) (.cons rfl .nil) (by decide)
  have st3 := st2.at (S := S) (fun c o hc e => (Heap.get?_update_other _ (Obj.mapSeq (·.push .none)) (Ne.symm hc)).trans e) ⟨_, Heap.get?_update_self _ e2 rfl⟩ hSn (hN TI (by simp)) (hN TO (by simp)) (hN i1 (by simp)) (hN i2 (by simp))
  obtain ⟨z3, its3, n3, r3, hl3, e3⟩ := I3.lstM upd_same
  refine wpAny_updateSeq e3 rfl ?_ (by rw [List.size_toArray]; omega) (by show (its3.toArray.pop).size ≤ _; rw [Array.size_pop, List.size_toArray]; omega)
  have I4 := I3.lset (t' := s.toks) (f := (·.pop)) (its' := []) (ys := []) upd_same e3 (by
    have : its3.length = 1 := by rw [← hl3]; rfl
    match its3, this with
    | [x], _ => simp) .nil (Nat.zero_le _)
  have st4 := st3.at (S := S) (fun c o hc e => (Heap.get?_update_other _ (Obj.mapSeq (·.pop)) (Ne.symm hc)).trans e) ⟨_, Heap.get?_update_self _ e3 rfl⟩ hSn (hN TI (by simp)) (hN TO (by simp)) (hN i1 (by simp)) (hN i2 (by simp))
  refine wpAny_pure ⟨plainId_quiet PySem.F.plain_extend_loop _, zip_walk (pins := pins) (σ := σ) (A := X.A.in1) hh D hp0 hqa hqb (fun H2 s' zs J sm hs hl hzz => ?_) _ 0 _ _ [] rfl (Nat.zero_le _) I4 ?_ ?_ st4 upd_same rfl (fun i v h => by simp at h)⟩
  · exact ⟨rfl, hQ S H2 s' zs J sm hp0 hs hl hzz⟩
  · intro c o e
    have n1 : c ≠ S := ne_of_none e hp0
    simp only [upd_ne n1]
    exact e
  · intro c hc
    refine ⟨?_, (hf c hc).2⟩
    simp only [upd_ne (hN c hc)]
    exact (hf c hc).1
end
def tListZip (K : PySem.W.Frag) (ta : TA) : TE := fun σ H Q => ta σ H fun vs H1 => ∃ a b xs ys, vs = [.ref a, .ref b] ∧ SqL K H1 a xs ∧ SqL K H1 b ys ∧
  ∀ S H2 zs, Same H1 H2 → H1 S = none → H2 S = some (.lst zs) → zs.length = min xs.length ys.length → Zipped H1 H2 xs ys zs → Q (.ref S) H2
def pListZip (r : PAs) : PAs := pCallL gZip r
section
variable {X : Cx} {K : PySem.W.Frag}
theorem pe_listZip {a b : Expr} {ta : TA} {p p2 pos pos2 : Pos} (hh : X.A.handled = none) (hg : Gl X "list") (hm : X.mg "list" = none) (hg2 : Gl X "zip") (hm2 : X.mg "zip" = none) (ha : PA X [a, b] ta)
    (hs : starEach [a, b] X.env = [(false, eval a X.env), (false, eval b X.env)] := by rfl) (hs2 : starEach [b] X.env = [(false, eval b X.env)] := by rfl)
    (he2 : starEach [.Call (.Name "zip" p2) [a, b] [] pos2] X.env = (false, eval (.Call (.Name "zip" p2) [a, b] [] pos2) X.env) :: starEach [] X.env := by rfl) (hpl2 : (backTo pos (starEach [] X.env)).any (·.1) = false := by rfl) :
    PE X (.Call (.Name "list" p) [.Call (.Name "zip" p2) [a, b] [] pos2] [] pos) (tListZip X.K ta) := by
  intro pins s σ H Q I h
  refine wpAny_Call_Name_kw (ld_blt I hg hm (by rfl) (PyProof.Rows.callWith_type1 ?_ he2 hpl2))
  rw [he2]
  show wpAny _ _ (spliced ((false, eval (.Call (.Name "zip" p2) [a, b] [] pos2) X.env) :: backTo pos (starEach [] X.env))) _ _ s
  refine Calls.spliced_cons (Call_ (ld_blt I hg2 hm2 (by rfl) (PyProof.Rows.callWith_type1 (thn (ha pos2 pins s σ H _ I h) fun us s1 ⟨vs, H1, I1, r1, q1⟩ => ?_) (by rw [hs, hs2]) (by rw [hs2]; rfl))))
  obtain ⟨l, l2, xs, ys, e, hq, hq2, q⟩ := q1
  subst e
  obtain ⟨u, u2, rfl, rx, rx2⟩ := vals2 r1
  cases rx
  cases rx2
  obtain ⟨its, rv, pl, hz⟩ := I1.list hq
  obtain ⟨jts, rv2, pl2, hz2⟩ := I1.list hq2
  have lt1 : l < s1.heap.objs.size := by obtain ⟨_, e, _⟩ := pl.isList; exact Heap.lt_size e
  have lt2 : l2 < s1.heap.objs.size := by obtain ⟨_, e, _⟩ := pl2.isList; exact Heap.lt_size e
  refine call_zip_2 pl.isList pl2.isList fun h' hzz hTI hTO hi1 hi2 hsz hk => Calls.spliced_nil ?_
  have I2 : Inv X pins σ H1 { s1 with heap := h', toks := s1.toks } := I1.kept hk
  have up : ∀ k, FpOk X pins H1 (s1.heap.objs.size + k) := fun k => I1.fpOk (Nat.le_add_right _ k) (I1.hok.fresh (Nat.le_add_right _ k))
  refine call_list_zip (s := { s1 with heap := h' }) (z := s1.heap.objs.size + 4) (TI := s1.heap.objs.size + 2) (TO := s1.heap.objs.size + 3) (i1 := s1.heap.objs.size) (i2 := s1.heap.objs.size + 1) hh I2 (zipApart_new lt1 lt2) ⟨hTI, ⟨_, _, hTO⟩, hi1, hi2, .inl hzz⟩ (fun c hc => ?_) (fun c hc => ?_) hq hq2 fun S H2 s' zs J sm hS1 hS hl hzp => ⟨.ref S, H2, J, rfl, q S H2 zs sm hS1 hS hl hzp⟩
  · simp only [List.mem_cons, List.not_mem_nil, or_false] at hc
    rcases hc with rfl | rfl | rfl | rfl | rfl
    · exact up 4
    · exact up 2
    · exact up 3
    · exact up 0
    · exact up 1
  · show c < h'.objs.size
    rw [hsz]
    simp only [List.mem_cons, List.not_mem_nil, or_false] at hc
    rcases hc with rfl | rfl | rfl | rfl | rfl
    · exact Nat.add_lt_add_left (by decide) _
    · exact Nat.add_lt_add_left (by decide) _
    · exact Nat.add_lt_add_left (by decide) _
    · exact Nat.lt_add_of_pos_right (by decide)
    · exact Nat.add_lt_add_left (by decide) _
theorem jl_listZip {a b : Expr} {ta : TA} {r : PAs} {p p2 pos pos2 : Pos} (hK : X.K = K) (hh : X.A.handled = none) (hg : Gl X "list") (hm : X.mg "list" = none) (hg2 : Gl X "zip") (hm2 : X.mg "zip" = none) (ha : JA X K [a, b] ta r)
    (hs : starEach [a, b] X.env = [(false, eval a X.env), (false, eval b X.env)] := by rfl) (hs2 : starEach [b] X.env = [(false, eval b X.env)] := by rfl)
    (he2 : starEach [.Call (.Name "zip" p2) [a, b] [] pos2] X.env = (false, eval (.Call (.Name "zip" p2) [a, b] [] pos2) X.env) :: starEach [] X.env := by rfl) (hpl2 : (backTo pos (starEach [] X.env)).any (·.1) = false := by rfl) :
    JL X K (.Call (.Name "list" p) [.Call (.Name "zip" p2) [a, b] [] pos2] [] pos) (tListZip K ta) (pListZip r) := ⟨by subst hK; exact pe_listZip hh hg hm hg2 hm2 ha.pe hs hs2 he2 hpl2, by
  intro O σ H ρ es Q ok er hf q
  obtain ⟨ds, e1, hf⟩ := bind_some' hf
  refine ha.pu O σ H ρ ds _ ok er e1 fun vs H1 s1 r1 => ?_
  unfold gZip at hf
  split at hf
  · rename_i d1 d2
    obtain ⟨v, u, rfl, rv, ru⟩ := rep2 r1
    cases hf
    cases rv with
    | lst hq r' =>
      cases ru with
      | lst hq2 r2' =>
        rename_i a1 xs a2 ys
        refine ⟨_, _, xs, ys, rfl, hid_le.seq hq, hid_le.seq hq2, fun S H2 zs sm hS1 hS hl hz => ?_⟩
        refine q S zs H2 (s1.trans sm) (s1.free hS1) hS ?_
        have ok1 := ok.mono s1
        have hl1 := r'.length
        have hl2 := r2'.length
        have sh : Same (hid O H1) (hid (S :: O) H2) := fun b o e => by
          obtain ⟨n, e⟩ := hid_some e
          rw [hid_out (by simp [n, ne_of_none e hS1])]
          exact sm b o e
        have key : ∀ (zs : List V) (k : Nat), zs.length = min xs.length ys.length - k → (∀ i v, zs[i]? = some v → ∃ p x y, v = .ref p ∧ H1 p = none ∧ H2 p = some (.tup [x, y]) ∧ xs[k + i]? = some x ∧ ys[k + i]? = some y) → RepAll K (hid (S :: O) H2) zs (zipD (d1.drop k) (d2.drop k)) := by
          intro zs
          induction zs with
          | nil =>
            intro k hk _
            have : zipD (d1.drop k) (d2.drop k) = [] := by
              apply List.eq_nil_of_length_eq_zero
              simp only [zipD, List.length_zipWith, List.length_drop, List.length_nil] at hk ⊢
              omega
            rw [this]
            exact .nil
          | cons v zs ih =>
            intro k hk hv
            rw [List.length_cons] at hk
            obtain ⟨p, x, y, rfl, hp1, hp2, hx, hy⟩ := hv 0 _ rfl
            rw [Nat.add_zero] at hx hy
            obtain ⟨dx, ex, rx⟩ := r'.getX hx
            obtain ⟨dy, ey, ry⟩ := r2'.getX hy
            have c1 : d1.drop k = dx :: d1.drop (k + 1) := by
              obtain ⟨hlt, e⟩ := List.getElem?_eq_some_iff.mp ex
              rw [List.drop_eq_getElem_cons hlt, e]
            have c2 : d2.drop k = dy :: d2.drop (k + 1) := by
              obtain ⟨hlt, e⟩ := List.getElem?_eq_some_iff.mp ey
              rw [List.drop_eq_getElem_cons hlt, e]
            rw [c1, c2]
            refine .cons (.tup (SqT.of ?_) (.cons (rx.mono sh) (.cons (ry.mono sh) .nil))) (ih (k + 1) (by omega) fun i v h => ?_)
            · rw [hid_out (by
                rintro (_ | ⟨_, hm⟩)
                · rw [hS] at hp2; cases hp2
                · exact ok1.fresh hp1 hm)]
              exact hp2
            · have := hv (i + 1) v (by simpa using h)
              rw [show k + 1 + i = k + (i + 1) by omega]
              exact this
        have := key zs 0 (by omega) fun i v h => by rw [Nat.zero_add]; exact hz i v h
        simpa using this
  · cases hf⟩
end
end L2
set_option maxHeartbeats 4000000
namespace L2
open PySem PySem.Spec PyProof.Rows
def Itb (K : PySem.W.Frag) (a : Addr) (n : Nat) : It :=
  ⟨fun i H => i < n ∧ ∃ xs x, SqL K H a xs ∧ xs.length = n ∧ xs[n - 1 - i]? = some x, fun i H x H' => H' = H ∧ ∀ xs, SqL K H a xs → xs[n - 1 - i]? = some x, fun i H => i = n ∧ ∃ xs, SqL K H a xs ∧ xs.length = n⟩
theorem turn_rev {P : Program} {w : World} {K : PySem.W.Frag} {tg : Expr} (a it : Addr) (n : Nat) : Turn P w K tg (Itb K a n) [it] it (fun i h => h.IsRevIter it a ((n : Int) - 1 - (i : Int))) where
  mem := by simp
  obj := fun i h st b hb => by
    have e : b = it := by simpa using hb
    subst e
    obtain ⟨o, e, c, d⟩ := st
    exact ⟨o, e, fun v z => by rw [d] at z; cases z⟩
  keep := fun i h h' st k => st.at fun o e => k it (by simp) o e
  item := by
    intro X hP hw hK hc i pins s σ H E I hf st hg
    subst hP hw hK
    obtain ⟨hi, xs, x, hq, hn, hx⟩ := hg
    obtain ⟨its, rv, p, hz⟩ := I.list hq
    obtain ⟨u, hu, ru⟩ := rv.get hx
    obtain ⟨f0, f1, f2, f3, f4, f5⟩ := hf it (by simp)
    have e : (n : Int) - 1 - (i : Int) = ((n - 1 - i : Nat) : Int) := by omega
    rw [e] at st
    refine wpAny_pyNext_rev_item st p.isList (x := u) (by simpa using hu) fun h' st' sb => ?_
    have e2 : ((n - 1 - i : Nat) : Int) - 1 = (n : Int) - 1 - ((i + 1 : Nat) : Int) := by omega
    rw [e2] at st'
    have I1 : Inv X pins σ H { s with heap := h' } := I.turned (t' := s.toks) (fun b o hb e => (sb.2 b hb).trans e) f0 f1 f3 f4 f5
    obtain ⟨o, eo, c, d⟩ := id st'
    exact ⟨u, rfl, go_of (s := { s with heap := h' }) eo c d (by decide) ⟨x, H, I1, ru, ⟨rfl, fun ys hy => by rw [I.list_inj hy hq]; exact hx⟩, st', fun b hb => (hf b hb).1⟩⟩
  done := by
    intro X hP hw hK hc i pins s σ H E I hf st hg
    subst hP hw hK
    obtain ⟨hi, xs, hq, hn⟩ := hg
    obtain ⟨f0, f1, f2, f3, f4, f5⟩ := hf it (by simp)
    have e : (n : Int) - 1 - (i : Int) = -1 := by omega
    rw [e] at st
    exact wpAny_pyNext_rev_end (I.ok.hd hc) st fun h' eb => ⟨rfl, I.turned (t' := s.toks) (fun b o hb e => eb b o hb e) f0 f1 f3 f4 f5⟩
  self := fun _ _ _ _ _ st h => wpAny_pyIter_revIter st h
def iRev (K : PySem.W.Frag) (ta : TA) : TI := fun σ H R => ta σ H fun vs H1 => ∃ a xs, vs = [.ref a] ∧ SqL K H1 a xs ∧ R (Itb K a xs.length) H1
section
variable {X : Cx} {K : PySem.W.Frag} {tg : Expr}
theorem pi_rev {a : Expr} {ta : TA} {p pos : Pos} (hg : Gl X "reversed") (hm : X.mg "reversed" = none) (ha : PA X [a] ta) (hs : starEach [a] X.env = [(false, eval a X.env)] := by rfl) :
    PI X tg (.Call (.Name "reversed" p) [a] [] pos) (iRev X.K ta) := by
  intro pins s σ H R I h
  refine Call_ (ld_blt I hg hm (by rfl) (PyProof.Rows.callWith_type1 (thn (ha pos pins s σ H _ I h) fun us s1 ⟨vs, H1, I1, r1, q1⟩ => ?_) hs rfl))
  obtain ⟨l, xs, e, hq, q⟩ := q1
  subst e
  obtain ⟨u, rfl, rx⟩ := vals1 r1
  cases rx
  obtain ⟨its, rv, pl, hz⟩ := I1.list hq
  have hl := rv.length
  refine call_reversed_list pl.isList ?_
  have hr : (s1.heap.push (revObj l ((its.toArray.size : Int) - 1))).IsRevIter s1.heap.objs.size l ((xs.length : Int) - 1 - ((0 : Nat) : Int)) := ⟨_, Heap.get?_push_size _ rfl, rfl, by
    show Data.fields #[.ref l, rawInt ((its.toArray.size : Int) - 1)] = _
    rw [List.size_toArray, ← hl]
    simp⟩
  have I2 : Inv X pins σ H1 { s1 with heap := s1.heap.push (revObj l ((its.toArray.size : Int) - 1)), toks := s1.toks } := I1.kept fun b o e => Heap.get?_push_of_some _ e
  refine wpAny_pyIter_revIter (s := { s1 with heap := _ }) hr ?_
  refine ⟨s1.heap.objs.size, [s1.heap.objs.size], _, _, H1, rfl, I2, turn_rev l _ xs.length, hr, fun b hb => ?_, q⟩
  have e : b = s1.heap.objs.size := by simpa using hb
  subst e
  exact I1.fpOk (Nat.le_refl _) (I1.hok.fresh (Nat.le_refl _))
theorem itok_rev {G : Hp} {a : Addr} {xs : List V} {ds : List D} (h : SqL K G a xs) (r : RepAll K G xs ds) : ItOk K G (Itb K a xs.length) ds.reverse := by
  intro Oc H' ok s
  have hq : SqL K H' a xs := (s.trans hid_le).seq h
  have hl := r.length
  rw [List.length_reverse]
  refine ⟨fun i hi => ⟨by omega, xs, xs[xs.length - 1 - i], hq, rfl, by simp [show xs.length - 1 - i < xs.length by omega]⟩, fun i x H'' hi y => ?_, ⟨by omega, xs, hq, rfl⟩⟩
  obtain ⟨e, y⟩ := y
  subst e
  obtain ⟨d, e, rd⟩ := r.getX (y xs hq)
  refine ⟨d, ?_, Same.refl _, rd.mono s⟩
  rw [List.getElem?_reverse hi, ← hl]
  exact e
def gRev : List D → Option (List D)
  | [.list ds] => some ds.reverse
  | _ => none
theorem ji_rev {a : Expr} {ta : TA} {r : PAs} {p pos : Pos} (hK : X.K = K) (hg : Gl X "reversed") (hm : X.mg "reversed" = none) (ha : JA X K [a] ta r) (hs : starEach [a] X.env = [(false, eval a X.env)] := by rfl) :
    JI X K tg (.Call (.Name "reversed" p) [a] [] pos) (iRev K ta) (pCallL gRev r) := ⟨by subst hK; exact pi_rev hg hm ha.pe hs, by
  intro O σ H ρ items R ok er hf q
  obtain ⟨ds, e1, hf⟩ := bind_some' hf
  refine ha.pu O σ H ρ ds _ ok er e1 fun vs H1 s1 r1 => ?_
  unfold gRev at hf
  split at hf
  · rename_i es
    obtain ⟨v, rfl, rv⟩ := rep1 r1
    cases hf
    cases rv with
    | lst hq r' => exact ⟨_, _, rfl, hid_le.seq hq, q _ H1 s1 (itok_rev hq r')⟩
  · cases hf⟩
end
section
variable {X : Cx} {K : PySem.W.Frag} {tg : Expr}
end
theorem ext_meets (l : Addr) (items : Array Value) (n : Nat) (b : Addr) (items2 : Array Value) (n2 : Nat) (sl : Array (Option Value)) (hc0 : ¬(!items.isEmpty && Builtin.List.listTooLong (items.size + items2.size)) = true) (hc1 : items.size ≤ sizeLine) (hs2 : (items ++ items2).size ≤ sizeLine + 1) :
    Meets (Builtin.«list.extend» ⟨[.ref l, .ref b], []⟩) (fun _ R s => s.heap.get? l = some { cls := .type "list", dict := none, data := .seq items n, slots := #[] } ∧ s.heap.get? b = some ⟨.type "list", none, .seq items2 n2, sl⟩ ∧
      R (.ok (.ret Value.none)) { s with heap := s.heap.update l (Obj.mapSeq fun x => x ++ items2), toks := s.toks }) := .of_wp fun prog w A R s h => by
  obtain ⟨hp, g, d, tk, os⟩ := s
  obtain ⟨hl, hb, h⟩ := h
  have f1 := AutoSeq1.idx_int; have f2 := AutoSeq1.sub_tuple_tuple; have f3 := AutoSeq1.sub_list_list; have f4 := AutoSeq1.sub_tuple_list; have f5 := AutoSeq1.sub_list_tuple
  wp_walk using (wpAny_updateSeq hl rfl (hz := hc1) (_hz' := hs2)), AutoSeq1.wpAny_loadPart' hl, AutoSeq1.wpAny_loadPart' hb
  exact ⟨_, rfl, h⟩
section
variable {X : Cx} {K : PySem.W.Frag} {pos : Pos}
def rExtK (K : PySem.W.Frag) : V → List V → Hp → VK → Prop := fun x vs H Q => ∃ l b xs zs, x = .ref l ∧ vs = [.ref b] ∧ H l = some (.lst xs) ∧ SqL K H b zs ∧ xs.length + zs.length ≤ sizeLine ∧ Q .non (upd H l (.lst (xs ++ zs)))
theorem mt_extK : MtR X "list.extend" (rExtK X.K) := by
  intro pins s σ H x vs v us Q I rx rv h
  obtain ⟨l, b, xs, zs, rfl, rfl, hH, hB, hz, q⟩ := h
  cases rx
  obtain ⟨u, rfl, ru⟩ := vals1 rv
  cases ru
  obtain ⟨z, its, n, r, hl, e⟩ := I.lstM hH
  obtain ⟨its2, r2, pl, z2⟩ := I.list hB
  have hl2 := r2.length
  obtain ⟨⟨cls, dd, data, sl⟩, m, ho, hc, hd, hs⟩ := pl
  simp only at hc hd hs
  subst hc hd hs
  have hsz : its.toArray.size + its2.toArray.size ≤ sizeLine := by rw [List.size_toArray, List.size_toArray]; omega
  have hlong : ¬ (!its.toArray.isEmpty && Builtin.List.listTooLong (its.toArray.size + its2.toArray.size)) = true := by
    rw [notLongL hsz, Bool.and_false]
    exact Bool.false_ne_true
  refine call_meets PySem.F.slot_list_extend ⟨_, e, rfl⟩ PySem.F.entry_list_extend (PySem.F.args_list_extend_2 _ _)
    (ext_meets l its.toArray n b its2.toArray m sl hlong (by omega) (by rw [Array.size_append]; omega)) ⟨e, ho, ?_⟩
  refine ⟨.non, _, I.lset (its' := its ++ its2) hH e (by simp) (r.append r2) ?_, rfl, q⟩
  rw [List.length_append]
  omega
def pExt (i : Nat) (vf : SEnv → Option Sl) : PSt := fun ρ => (vf ρ).bind fun s => (asSh s).bind fun d => (asL d).bind fun es => (ρ[i]?).bind fun s' => (asOw s').bind fun ds => if fits (ds.length + es.length) = true then some (.nx (ρ.set i (.ow (ds ++ es)))) else none
theorem js_ext (i : Nat) {x : Str} {e : Expr} {te : TE} {vf : SEnv → Option Sl} {p apos cpos : Pos} (he : PE X e te) (pv : PuV K te vf) (hK : X.K = K) (hN : X.N[i]? = some x := by rfl) (hv : Vis X.env.scope x := by first | exact Or.inl rfl | exact Or.inr (Or.inl rfl) | exact Or.inr (Or.inr rfl)) (hd : (x == ("__debug__" : Str)) = false := by decide)
    (hcd : (x == ("__classdict__" : Str)) = false := by decide) (hbase : attributeBase (.Name x p) "extend" X.env (eval (.Name x p) X.env) = eval (.Name x p) X.env := by rfl)
    (hfew : ((backTo cpos (starEach [e] X.env)).all (fun x => !x.1) && (backToKw cpos (keywordEach [] X.env)).all (fun x => x.1.isSome)
      && decide ([e].length + ([] : List Keyword).length + (if ([] : List Keyword).isEmpty then 0 else 1) < 30)) = true := by rfl)
    (hline : (apos.endLine == cpos.line) = true := by rfl) (hs : starEach [e] X.env = (false, eval e X.env) :: starEach [] X.env := by rfl) (hplain : (backTo cpos (starEach [] X.env)).any (·.1) = false := by rfl)
    (hs2 : swapsWith (.Call (.Attribute (.Name x p) "extend" apos) [e] [] cpos) none pos.line X.env = pure false := by rfl) :
    JS X K (.Expr (.Call (.Attribute (.Name x p) "extend" apos) [e] [] cpos) pos) (tDrop (tBM K "list" (rExtK K) (tVar i) (tCons te tNil))) (pExt i vf) := ⟨by
  subst hK
  exact ps_expr (pe_bm PySem.F.plainAttrs_list PySem.F.slot_list_extend PySem.F.type_list_extend mt_extK (pe_var hN hv hd hcd) (pa_cons he pa_nil hs) hbase hfew hline hs hplain) hs2, by
  intro H0 O0 G σ H ρ o E ok s hf q
  obtain ⟨sl, e1, hf⟩ := bind_some' hf
  obtain ⟨d, e2, hf⟩ := bind_some' hf
  obtain ⟨es, e5, hf⟩ := bind_some' hf
  obtain ⟨sl2, e3, hf⟩ := bind_some' hf
  obtain ⟨ds, e4, hf⟩ := bind_some' hf
  rw [asSh_eq e2] at e1
  rw [asOw_eq e4] at e3
  by_cases hc : fits (ds.length + es.length) = true
  · rw [if_pos hc] at hf
    cases hf
    obtain ⟨a, xs, h1, h2, h3⟩ := s.getOw e3
    refine ⟨_, h1, .inl ⟨rfl, _, SqL.of h2⟩, ?_⟩
    refine pv H0 O0 G σ H ρ _ _ ok s e1 fun v H' s' sv => ?_
    obtain ⟨O, P, s0, n, nd, g, sl, rfl, r⟩ := sv.ex
    simp only [List.nil_append] at g sl r
    obtain ⟨a', xs', h1', h2', h3', h4'⟩ := sl.getOw e3
    rw [h1] at h1'
    cases h1'
    cases r with
    | lst hq r' =>
      rename_i b zs _
      obtain rfl := Option.some.inj e5
      have hl := h4'.length
      have hl2 := r'.length
      have hfit : ds.length + _ < sizeLine := of_decide_eq_true hc
      have hB : SqL K H' b zs := hid_le.seq hq
      refine ⟨a, b, xs', zs, rfl, rfl, h3', hB, by omega, q σ _ ⟨O, fun c o e => ?_, n, nd, ?_, ?_⟩⟩
      · rw [upd_ne (ne_of_none e (n a h2'))]
        exact s0 c o e
      · rw [hid_upd (by simp [h2'])]
        exact g
      · rw [hid_upd (by simp [h2'])]
        exact sl.write (h4'.append r') nd e3 h1
    | _ => cases e5
  · rw [if_neg hc] at hf
    cases hf⟩
theorem js_extS (i : Nat) {x : Str} {e : Expr} {te : TE} {f : PF} {p apos cpos : Pos} (he : JE X K e te f) (hK : X.K = K) (hN : X.N[i]? = some x := by rfl) (hv : Vis X.env.scope x := by first | exact Or.inl rfl | exact Or.inr (Or.inl rfl) | exact Or.inr (Or.inr rfl)) (hd : (x == ("__debug__" : Str)) = false := by decide)
    (hcd : (x == ("__classdict__" : Str)) = false := by decide) (hbase : attributeBase (.Name x p) "extend" X.env (eval (.Name x p) X.env) = eval (.Name x p) X.env := by rfl)
    (hfew : ((backTo cpos (starEach [e] X.env)).all (fun x => !x.1) && (backToKw cpos (keywordEach [] X.env)).all (fun x => x.1.isSome)
      && decide ([e].length + ([] : List Keyword).length + (if ([] : List Keyword).isEmpty then 0 else 1) < 30)) = true := by rfl)
    (hline : (apos.endLine == cpos.line) = true := by rfl) (hs : starEach [e] X.env = (false, eval e X.env) :: starEach [] X.env := by rfl) (hplain : (backTo cpos (starEach [] X.env)).any (·.1) = false := by rfl)
    (hs2 : swapsWith (.Call (.Attribute (.Name x p) "extend" apos) [e] [] cpos) none pos.line X.env = pure false := by rfl) :
    JS X K (.Expr (.Call (.Attribute (.Name x p) "extend" apos) [e] [] cpos) pos) (tDrop (tBM K "list" (rExtK K) (tVar i) (tCons te tNil))) (pExt i (vS f)) := js_ext i he.pe (pv_S he.pu) hK hN hv hd hcd hbase hfew hline hs hplain hs2
def pSetPop (j i : Nat) (fi : PF) : PSt := fun ρ => (fi (full ρ)).bind fun kd => (asI kd).bind fun k => (ρ[i]?).bind fun s' => (asOw s').bind fun ds => if 0 ≤ k ∧ fits ds.length = true then (ds[k.toNat]?).bind fun d => some (.nx ((ρ.set i (.ow (ds.eraseIdx k.toNat))).set j (.sh d))) else none
theorem js_setPop (i j : Nat) {x y : Str} {e : Expr} {te : TE} {f : PF} {p apos cpos py : Pos} (he : JE X K e te f) (hK : X.K = K) (hnd : X.N.Nodup) (hy : X.N[j]? = some y) (hly : Loc X.env.scope y) (hN : X.N[i]? = some x := by rfl) (hv : Vis X.env.scope x := by first | exact Or.inl rfl | exact Or.inr (Or.inl rfl) | exact Or.inr (Or.inr rfl)) (hd : (x == ("__debug__" : Str)) = false := by decide)
    (hcd : (x == ("__classdict__" : Str)) = false := by decide) (hbase : attributeBase (.Name x p) "pop" X.env (eval (.Name x p) X.env) = eval (.Name x p) X.env := by rfl)
    (hfew : ((backTo cpos (starEach [e] X.env)).all (fun x => !x.1) && (backToKw cpos (keywordEach [] X.env)).all (fun x => x.1.isSome)
      && decide ([e].length + ([] : List Keyword).length + (if ([] : List Keyword).isEmpty then 0 else 1) < 30)) = true := by rfl)
    (hline : (apos.endLine == cpos.line) = true := by rfl) (hs : starEach [e] X.env = (false, eval e X.env) :: starEach [] X.env := by rfl) (hplain : (backTo cpos (starEach [] X.env)).any (·.1) = false := by rfl)
    (hs2 : swapsWith (.Call (.Attribute (.Name x p) "pop" apos) [e] [] cpos) (some (.Name y py)) pos.line X.env = pure false := by rfl) (hf : X.fn y = true ∨ X.env.scope.names.lookup y = some .local := by first | exact .inl rfl | exact .inr rfl | assumption) :
    JS X K (.Assign [.Name y py] (.Call (.Attribute (.Name x p) "pop" apos) [e] [] cpos) pos) (tAsg (tBM K "list" rPopAt (tVar i) (tCons te tNil)) (gName j)) (pSetPop j i f) := ⟨by
  subst hK
  exact ps_set hnd hy hly (pe_bm PySem.F.plainAttrs_list PySem.F.slot_list_pop PySem.F.type_list_pop mt_popAt (pe_var hN hv hd hcd) (pa_cons he.pe pa_nil hs) hbase hfew hline hs hplain) hs2 hf, by
  intro H0 O0 G σ H ρ o E ok s hf q
  obtain ⟨kd, e1, hf⟩ := bind_some' hf
  obtain ⟨k, e2, hf⟩ := bind_some' hf
  obtain ⟨sl2, e3, hf⟩ := bind_some' hf
  obtain ⟨ds, e4, hf⟩ := bind_some' hf
  rw [asOw_eq e4] at e3
  by_cases hc : 0 ≤ k ∧ fits ds.length = true
  · rw [if_pos hc] at hf
    obtain ⟨d, ed, hf⟩ := bind_some' hf
    cases hf
    obtain ⟨a0, xs0, h10, h20, h30⟩ := s.getOw e3
    refine ⟨_, h10, .inl ⟨rfl, _, SqL.of h20⟩, ?_⟩
    refine s.evalF he.pu ok e1 fun v H1 s1 t1 rv => ?_
    obtain ⟨O, s0, n, nd, g, sl⟩ := t1.ex
    obtain ⟨a, xs, h1, h2, h3, h4⟩ := sl.getOw e3
    rw [h10] at h1
    cases h1
    have hl := h4.length
    have hsz : sizeLine = 16777216 := sizeLine_eq
    have hfit : ds.length < sizeLine := of_decide_eq_true hc.2
    cases rv with
    | int m =>
      obtain rfl : m = k := Option.some.inj e2
      obtain ⟨x0, ex, rx⟩ := h4.get ed
      obtain ⟨hkl, _⟩ := List.getElem?_eq_some_iff.mp ex
      refine ⟨a0, xs, m, m.toNat, x0, rfl, rfl, h3, by omega, by omega, seqIndex_of hc.1 (by omega), ex, ?_⟩
      have t2 : StV K H0 O0 G σ (upd H1 a0 (.lst (xs.eraseIdx m.toNat))) (ρ.set i (.ow (ds.eraseIdx m.toNat))) x0 (.sh d) := ⟨O, [], fun b o e => by
          rw [upd_ne (ne_of_none e (n a0 h2))]
          exact s0 b o e, n, nd, by
          simp only [List.nil_append]
          rw [hid_upd (by simp [h2])]
          exact g, by
          simp only [List.nil_append]
          rw [hid_upd (by simp [h2])]
          exact sl.write (h4.eraseIdx _) nd e3 h10, rfl, by
          simp only [List.nil_append]
          rw [hid_upd (by simp [h2])]
          exact rx⟩
      exact q _ _ (t2.set j)
    | _ => cases e2
  · rw [if_neg hc] at hf
    cases hf⟩
end
end L2
set_option maxHeartbeats 4000000
namespace L2
open PySem PySem.Spec PyProof.Rows
theorem runF_of {n m : Nat} {F : PSt} {ds : List D} {o : Out} {d : D} (hl : ds.length = n) (h : F (startP m ds) = some o) (ho : outD o = some d) : runF n m F ds = some d := by
  unfold runF
  rw [if_pos hl, h]
  exact ho
theorem runL_of {n m : Nat} {F : PSt} {ds : List D} {es : List D} (hl : ds.length = n) (h : F (startP m ds) = some (.rl es)) : runL n m F ds = some es := by
  unfold runL
  rw [if_pos hl, h]
  rfl
theorem dAdd_int (a b : Int) : dAdd (.int a) (.int b) = some (.int (a + b)) := rfl
theorem dSub_int (a b : Int) : dSub (.int a) (.int b) = some (.int (a - b)) := rfl
theorem dMul_int (a b : Int) : dMul (.int a) (.int b) = if (small a || small b) = true then some (.int (a * b)) else none := rfl
theorem dMod_int (a b : Int) : dMod (.int a) (.int b) = if 0 < b then some (.int (a % b)) else none := by
  show (if decide (0 < b) = true then _ else _) = _
  simp only [decide_eq_true_eq]
theorem dDiv_int (a b : Int) : dDiv (.int a) (.int b) = if (0 < b ∧ b < 1073741824) ∨ Wide b then some (.int (a / b)) else none := by
  show (if decide ((0 < b ∧ b < 1073741824) ∨ Wide b) = true then _ else _) = _
  simp only [decide_eq_true_eq]
theorem dPow_int (a b : Int) : dPow (.int a) (.int b) = if 0 ≤ b ∧ b ≤ 1000000 ∧ a.natAbs < 2 ^ 64 then some (.int (a ^ b.toNat)) else none := by
  show (if decide (0 ≤ b ∧ b ≤ 1000000 ∧ a.natAbs < 2 ^ 64) = true then _ else _) = _
  simp only [decide_eq_true_eq]
def tenP (b : Int) : Int := 10 ^ b.toNat
theorem tenP_pos (b : Int) : 0 < tenP b := Int.pow_pos (by decide)
theorem dPow_ten (b : Int) : dPow (.int 10) (.int b) = if 0 ≤ b ∧ b ≤ 1000000 then some (.int (tenP b)) else none := by
  rw [dPow_int]
  have e : (10 : Int).natAbs < 2 ^ 64 := by decide
  simp only [e, and_true]
  rfl
theorem dLt_int (a b : Int) : dLt (.int a) (.int b) = some (.bool (decide (a < b))) := rfl
theorem dLe_int (a b : Int) : dLe (.int a) (.int b) = some (.bool (decide (a ≤ b))) := rfl
theorem dGt_int (a b : Int) : dGt (.int a) (.int b) = some (.bool (decide (b < a))) := rfl
theorem dGe_int (a b : Int) : dGe (.int a) (.int b) = some (.bool (decide (b ≤ a))) := rfl
theorem dNeg_int (a : Int) : dNeg (.int a) = some (.int (-a)) := rfl
theorem dEq_int (a b : Int) : dEq (.int a) (.int b) = some (.bool (decide (a = b))) := by
  simp [dEq, SeqAt.shaped, PyData.canLay0, PyData.depth, PyData.eqv, Bool.beq_eq_decide_eq]
theorem dNe_int (a b : Int) : dNe (.int a) (.int b) = some (.bool (!decide (a = b))) := by
  simp [dNe, SeqAt.shaped, PyData.canLay0, PyData.depth, PyData.eqv, Bool.beq_eq_decide_eq]
theorem dIx_list (ds : List D) (i : Int) : dIx (.list ds) (.int i) = atI ds i := rfl
theorem dIx_tup (ds : List D) (i : Int) : dIx (.tuple ds) (.int i) = atI ds i := rfl
theorem atI_ofNat {α : Type} (xs : List α) (j : Nat) : atI xs (j : Int) = xs[j]? := by
  unfold atI ixN
  by_cases h : j < xs.length
  · rw [if_pos (by omega), if_pos (by omega)]
    simp
  · rw [if_pos (by omega), if_neg (by omega)]
    simp; omega
theorem atI_zero {α : Type} (x : α) (xs : List α) : atI (x :: xs) 0 = some x := atI_ofNat (x :: xs) 0
theorem atI_one {α : Type} (x y : α) (xs : List α) : atI (x :: y :: xs) 1 = some y := atI_ofNat (x :: y :: xs) 1
theorem atI_two {α : Type} (x y z : α) (xs : List α) : atI (x :: y :: z :: xs) 2 = some z := atI_ofNat (x :: y :: z :: xs) 2
theorem fits_lit {n : Nat} (h : n < 16777216) : fits n = true := decide_eq_true h
theorem small_def (i : Int) : small i = decide (-18446744073709551616 < i ∧ i < 18446744073709551616) := rfl
theorem fits_def (n : Nat) : fits n = decide (n < 16777216) := rfl
theorem tyD_list (i : List D) : tyD (.list i) = "list" := rfl
theorem tyD_tup (i : List D) : tyD (.tuple i) = "tuple" := rfl
theorem tyD_bool (i : Bool) : tyD (.bool i) = "bool" := rfl
theorem tyD_int (i : Int) : tyD (.int i) = "int" := rfl
theorem tyD_none : tyD .none = "NoneType" := rfl
theorem subT_refl (t : String) : subT t t = true := by simp [subT]
theorem subT_ib : subT "int" "bool" = false := by decide
theorem subT_bi : subT "bool" "int" = true := by decide
theorem isNon_none : isNon (.none : D) = true := rfl
theorem isNon_int (i : Int) : isNon (.int i : D) = false := rfl
theorem isNon_list (i : List D) : isNon (.list i : D) = false := rfl
theorem isNon_tup (i : List D) : isNon (.tuple i : D) = false := rfl
theorem bnd_some {α β : Type} (a : α) (f : α → Option β) : (some a).bind f = f a := by
  have h : ∀ o : Option α, o = some a → o.bind f = f a := by
    intro o e
    subst e
    rfl
  exact h _ rfl
theorem bnd_none {α β : Type} (f : α → Option β) : (none : Option α).bind f = none := rfl
theorem getI0 {α : Type} (x : α) (xs : List α) : (x :: xs)[0]? = some x := rfl
theorem getIS {α : Type} (x : α) (xs : List α) (i : Nat) : (x :: xs)[i + 1]? = xs[i]? := rfl
theorem asB_bool (b : Bool) : asB (.bool b) = some b := rfl
theorem asI_int (b : Int) : asI (.int b) = some b := rfl
theorem asL_list (b : List D) : asL (.list b) = some b := rfl
theorem asT_tup (b : List D) : asT (.tuple b) = some b := rfl
theorem asSh_sh (b : D) : asSh (.sh b) = some b := rfl
theorem asOw_ow (b : List D) : asOw (.ow b) = some b := rfl
theorem view_sh (d : D) : Sl.view (.sh d) = some d := rfl
theorem view_ow (d : List D) : Sl.view (.ow d) = some (.list d) := rfl
theorem view_no : Sl.view .no = none := rfl
theorem mask_sh (d : D) : Sl.mask (.sh d) = some d := rfl
theorem mask_ow (d : List D) : Sl.mask (.ow d) = none := rfl
theorem mask_no : Sl.mask .no = none := rfl
theorem gLen_list (ds : List D) : gLen [.list ds] = some (.int ds.length) := rfl
theorem gLen_tup (ds : List D) : gLen [.tuple ds] = some (.int ds.length) := rfl
theorem gList_list (ds : List D) : gList [.list ds] = some ds := rfl
theorem gList_tup (ds : List D) : gList [.tuple ds] = some ds := rfl
theorem gEnum_list (ds : List D) : gEnum [.list ds] = some (enumD ds) := rfl
theorem gZip_list (ds es : List D) : gZip [.list ds, .list es] = some (zipD ds es) := rfl
theorem gMax_int (i j : Int) : gMax [.int i, .int j] = some (.int (max i j)) := rfl
theorem gMin_int (i j : Int) : gMin [.int i, .int j] = some (.int (min i j)) := rfl
theorem gInt_bool (b : Bool) : gInt [.bool b] = some (.int (if b then 1 else 0)) := rfl
theorem gInt_int (b : Int) : gInt [.int b] = some (.int b) := rfl
theorem gRange1_int (j : Int) (h : -4611686018427387904 ≤ j ∧ j < 4611686018427387904) : gRange1 [.int j] = some (rangeD 0 j.toNat) := if_pos h
theorem gRange2_int (i j : Int) (h : -4611686018427387904 ≤ i ∧ i < 4611686018427387904 ∧ -4611686018427387904 ≤ j ∧ j < 4611686018427387904) : gRange2 [.int i, .int j] = some (rangeD i (j - i).toNat) := if_pos h
theorem startP_eq (m : Nat) (ds : List D) : startP m ds = ds.map .sh ++ List.replicate (m - ds.length) .no := rfl
theorem flatD_int (i : Int) : flatD (.int i) = true := by simp [flatD]
theorem flatD_bool (i : Bool) : flatD (.bool i) = true := by simp [flatD]
theorem flatD_none : flatD .none = true := by simp [flatD]
theorem flatD_tup (ds : List D) : flatD (.tuple ds) = flatAll ds := by simp [flatD]
theorem flatAll_nil : flatAll [] = true := rfl
theorem flatAll_cons (d : D) (ds : List D) : flatAll (d :: ds) = (flatD d && flatAll ds) := rfl
theorem ite_true' {α : Type} (a b : α) : (if true = true then a else b) = a := rfl
theorem ite_false' {α : Type} (a b : α) : (if false = true then a else b) = b := rfl
theorem compP_map {α : Type} {bd : D → PEnv → Option PEnv} {pt : PB} {fe : PF} {ρ0 : PEnv} (enc : α → D) (p : α → Bool) (h : α → D) : ∀ (xs : List α), (∀ x ∈ xs, ∃ ρ1, bd (enc x) ρ0 = some ρ1 ∧ pt ρ1 = some (p x) ∧ (p x = true → fe ρ1 = some (h x))) →
    compP bd pt fe ρ0 (xs.map enc) = some ((xs.filter p).map h)
  | [], _ => rfl
  | x :: xs, H => by
    obtain ⟨ρ1, h1, h2, h3⟩ := H x List.mem_cons_self
    have ih := compP_map enc p h xs fun y hy => H y (List.mem_cons_of_mem _ hy)
    rw [List.map_cons]
    unfold compP
    rw [h1, bnd_some, h2, bnd_some, ih]
    cases hp : p x with
    | true => rw [if_pos rfl, h3 hp, bnd_some, bnd_some, List.filter_cons_of_pos hp]; rfl
    | false => rw [if_neg Bool.false_ne_true, List.filter_cons_of_neg (by rw [hp]; exact Bool.false_ne_true)]
theorem compP_mapT {α : Type} {bd : D → PEnv → Option PEnv} {fe : PF} {ρ0 : PEnv} (enc : α → D) (h : α → D) (xs : List α) (H : ∀ x ∈ xs, ∃ ρ1, bd (enc x) ρ0 = some ρ1 ∧ fe ρ1 = some (h x)) :
    compP bd pTrue fe ρ0 (xs.map enc) = some (xs.map h) := by
  have := compP_map (pt := pTrue) enc (fun _ => true) h xs fun x hx => by
    obtain ⟨ρ1, h1, h2⟩ := H x hx
    exact ⟨ρ1, h1, rfl, fun _ => h2⟩
  rw [this, List.filter_eq_self.mpr (fun _ _ => rfl)]
theorem forP_nx {bs : D → SEnv → Option SEnv} {F : PSt} {d : D} {ds : List D} {ρ ρ1 ρ2 : SEnv} (h1 : bs d ρ = some ρ1) (h2 : F ρ1 = some (.nx ρ2)) : forP bs F (d :: ds) ρ = forP bs F ds ρ2 := by
  simp only [forP, h1, h2, bnd_some]
theorem forP_rt {bs : D → SEnv → Option SEnv} {F : PSt} {d r : D} {ds : List D} {ρ ρ1 : SEnv} (h1 : bs d ρ = some ρ1) (h2 : F ρ1 = some (.rt r)) : forP bs F (d :: ds) ρ = some (.rt r) := by
  simp only [forP, h1, h2, bnd_some]
theorem for_inv {α S : Type} {bs : D → SEnv → Option SEnv} {F : PSt} (enc : α → D) (R : S → SEnv → Prop) (step : S → α → S) : ∀ (xs : List α), (∀ s ρ x, x ∈ xs → R s ρ → ∃ ρ1 ρ2, bs (enc x) ρ = some ρ1 ∧ F ρ1 = some (.nx ρ2) ∧ R (step s x) ρ2) →
    ∀ s ρ, R s ρ → ∃ ρ', forP bs F (xs.map enc) ρ = some (.nx ρ') ∧ R (xs.foldl step s) ρ'
  | [], _, s, ρ, r => ⟨ρ, rfl, r⟩
  | x :: xs, H, s, ρ, r => by
    obtain ⟨ρ1, ρ2, h1, h2, r2⟩ := H s ρ x List.mem_cons_self r
    obtain ⟨ρ', h3, r3⟩ := for_inv enc R step xs (fun s ρ y hy => H s ρ y (List.mem_cons_of_mem _ hy)) (step s x) ρ2 r2
    exact ⟨ρ', by rw [List.map_cons, forP_nx h1 h2]; exact h3, r3⟩
theorem for_range_inv {bs : D → SEnv → Option SEnv} {F : PSt} {lo : Int} (R : Nat → SEnv → Prop) (n : Nat) (H : ∀ i ρ, i < n → R i ρ → ∃ ρ1 ρ2, bs (.int (lo + (i : Nat))) ρ = some ρ1 ∧ F ρ1 = some (.nx ρ2) ∧ R (i + 1) ρ2) (ρ : SEnv) (r : R 0 ρ) :
    ∃ ρ', forP bs F (rangeD lo n) ρ = some (.nx ρ') ∧ R n ρ' := by
  have key : ∀ (k i : Nat) (ρ : SEnv), i + k = n → R i ρ → ∃ ρ', forP bs F ((List.range' i k).map fun i => .int (lo + (i : Nat))) ρ = some (.nx ρ') ∧ R n ρ' := by
    intro k
    induction k with
    | zero => intro i ρ h r; have e : i = n := by omega
              subst e; exact ⟨ρ, rfl, r⟩
    | succ k ih =>
      intro i ρ h r
      obtain ⟨ρ1, ρ2, h1, h2, r2⟩ := H i ρ (by omega) r
      obtain ⟨ρ', h3, r3⟩ := ih (i + 1) ρ2 (by omega) r2
      exact ⟨ρ', by rw [List.range'_succ, List.map_cons, forP_nx h1 h2]; exact h3, r3⟩
  have := key n 0 ρ (by omega) r
  unfold rangeD
  rw [List.range_eq_range']
  exact this
theorem for_range_find {bs : D → SEnv → Option SEnv} {F : PSt} {lo : Int} (ok : Nat → Bool) (R : SEnv → Prop) (r : D) (n : Nat) (H : ∀ i ρ, i < n → R ρ → ∃ ρ1, bs (.int (lo + (i : Nat))) ρ = some ρ1 ∧ (ok i = true → ∃ ρ2, F ρ1 = some (.nx ρ2) ∧ R ρ2) ∧ (ok i = false → F ρ1 = some (.rt r))) (ρ : SEnv) (h : R ρ) :
    ((List.range n).all ok = true ∧ ∃ ρ', forP bs F (rangeD lo n) ρ = some (.nx ρ') ∧ R ρ') ∨ ((List.range n).all ok = false ∧ forP bs F (rangeD lo n) ρ = some (.rt r)) := by
  have key : ∀ (k i : Nat) (ρ : SEnv), i + k = n → R ρ → ((List.range' i k).all ok = true ∧ ∃ ρ', forP bs F ((List.range' i k).map fun i => .int (lo + (i : Nat))) ρ = some (.nx ρ') ∧ R ρ') ∨ ((List.range' i k).all ok = false ∧ forP bs F ((List.range' i k).map fun i => .int (lo + (i : Nat))) ρ = some (.rt r)) := by
    intro k
    induction k with
    | zero => intro i ρ h r; exact .inl ⟨rfl, ρ, rfl, r⟩
    | succ k ih =>
      intro i ρ h rr
      obtain ⟨ρ1, h1, h2, h3⟩ := H i ρ (by omega) rr
      rw [List.range'_succ, List.map_cons, List.all_cons]
      cases ho : ok i with
      | true =>
        obtain ⟨ρ2, h4, r2⟩ := h2 ho
        rw [forP_nx h1 h4, Bool.true_and]
        exact ih (i + 1) ρ2 (by omega) r2
      | false => exact .inr ⟨rfl, forP_rt h1 (h3 ho)⟩
  have := key n 0 ρ (by omega) h
  unfold rangeD
  rw [List.range_eq_range']
  exact this
theorem while_idx {c : PB} {F : PSt} (B : Nat) (R : Nat → SEnv → Prop) (H : ∀ k ρ, R k ρ → ∃ b, c (full ρ) = some b ∧ (b = true → k < B ∧ ∃ ρ', F ρ = some (.nx ρ') ∧ R (k + 1) ρ')) :
    ∀ (n k : Nat) (ρ : SEnv), R k ρ → k ≤ B → B < k + n → ∃ k' ρ', whileP c F n ρ = some (.nx ρ') ∧ R k' ρ' ∧ c (full ρ') = some false ∧ k' ≤ B
  | 0, k, ρ, _, h, h' => by omega
  | n + 1, k, ρ, r, h, h' => by
    obtain ⟨b, h1, h2⟩ := H k ρ r
    cases b with
    | false => exact ⟨k, ρ, by simp only [whileP, h1, bnd_some, Bool.false_eq_true, if_false], r, h1, h⟩
    | true =>
      obtain ⟨hk, ρ2, h3, r2⟩ := h2 rfl
      obtain ⟨k', ρ', h5, r5, h6, h7⟩ := while_idx B R H n (k + 1) ρ2 r2 (by omega) (by omega)
      refine ⟨k', ρ', ?_, r5, h6, h7⟩
      simp only [whileP, h1, h3, bnd_some, if_true]
      exact h5
theorem sq_nx {F F' : PSt} {ρ ρ' : SEnv} {o : Option Out} (h : F ρ = some (.nx ρ')) (h' : F' ρ' = o) : pSq F F' ρ = o := by
  unfold pSq
  rw [h]
  exact h'
theorem sq_rt {F F' : PSt} {ρ : SEnv} {d : D} (h : F ρ = some (.rt d)) : pSq F F' ρ = some (.rt d) := by
  unfold pSq
  rw [h]
  rfl
theorem sq_rl {F F' : PSt} {ρ : SEnv} {d : List D} (h : F ρ = some (.rl d)) : pSq F F' ρ = some (.rl d) := by
  unfold pSq
  rw [h]
  rfl
theorem if_tt {c : PB} {F F' : PSt} {ρ : SEnv} {o : Option Out} (h : c (full ρ) = some true) (h' : F ρ = o) : pIfS c F F' ρ = o := by
  unfold pIfS
  rw [h]
  exact h'
theorem if_ff {c : PB} {F F' : PSt} {ρ : SEnv} {o : Option Out} (h : c (full ρ) = some false) (h' : F' ρ = o) : pIfS c F F' ρ = o := by
  unfold pIfS
  rw [h]
  exact h'
theorem for_eq {fi : PAs} {bs : D → SEnv → Option SEnv} {F : PSt} {ρ : SEnv} {items : List D} (h : fi (masked ρ) = some items) : pFor fi bs F ρ = forP bs F items ρ := by
  unfold pFor
  rw [h]
  rfl
theorem comp_eq {fi : PAs} {bd : D → PEnv → Option PEnv} {pt : PB} {fe : PF} {n : Nat} {is : List Nat} {ρ : PEnv} {items : List D} (h : fi ρ = some items) (hl : items.length < 16777216) : pComp fi bd pt fe n is ρ = compP bd pt fe (compEnv n is ρ) items := by
  unfold pComp
  rw [h, bnd_some, if_pos (fits_lit hl)]
theorem dEq_T (t u : Thing) : dEq (encD t) (encD u) = some (.bool (decide (t = u))) := by
  unfold dEq
  rw [if_pos ⟨shaped_T t, shaped_T u⟩, eqv_T]
theorem dNe_T (t u : Thing) : dNe (encD t) (encD u) = some (.bool (!decide (t = u))) := by
  unfold dNe
  rw [if_pos ⟨shaped_T t, shaped_T u⟩, eqv_T]
theorem dNe_N (t : Thing) : dNe (encD t) (.tuple []) = some (.bool (!decide (t = none))) := dNe_T t none
theorem dEq_N (t : Thing) : dEq (encD t) (.tuple []) = some (.bool (decide (t = none))) := dEq_T t none
theorem dEq_L (ts us : List Thing) : dEq (.list (ts.map encD)) (.list (us.map encD)) = some (.bool (decide (ts = us))) := by
  unfold dEq
  rw [if_pos ⟨shaped_L ts, shaped_L us⟩, eqv_L]
theorem dNe_L (ts us : List Thing) : dNe (.list (ts.map encD)) (.list (us.map encD)) = some (.bool (!decide (ts = us))) := by
  unfold dNe
  rw [if_pos ⟨shaped_L ts, shaped_L us⟩, eqv_L]
theorem flat_T (t : Thing) : flatD (encD t) = true := by
  cases t with
  | none => rfl
  | some kw => obtain ⟨k, w⟩ := kw; rfl
theorem flat_Ts : ∀ ts : List Thing, flatAll (ts.map encD) = true
  | [] => rfl
  | t :: r => by rw [List.map_cons, flatAll_cons, flat_T, flat_Ts r]; rfl
theorem dEq_ints (a b : List Int) : dEq (.list (a.map PyData.int)) (.list (b.map PyData.int)) = some (.bool (decide (a = b))) := by
  have sh : ∀ l : List Int, PyData.canLayAll0 (l.map PyData.int) = true ∧ PyData.depthAll (l.map PyData.int) ≤ 1 := by
    intro l
    induction l with
    | nil => simp [PyData.canLayAll0, PyData.depthAll]
    | cons n r ih => simp only [List.map_cons, PyData.canLayAll0, PyData.depthAll, PyData.canLay0, PyData.depth, ih.1, Bool.and_self, true_and]; have := ih.2; omega
  have sp : ∀ l : List Int, SeqAt.shaped (.list (l.map PyData.int)) = true := fun l => by
    unfold SeqAt.shaped
    simp only [PyData.canLay0, PyData.depth, (sh l).1, Bool.true_and]
    exact decide_eq_true (by have := (sh l).2; omega)
  have ev : ∀ a b : List Int, PyData.eqvAll (a.map PyData.int) (b.map PyData.int) = decide (a = b) := by
    intro a
    induction a with
    | nil => intro b; cases b <;> simp [PyData.eqvAll]
    | cons x r ih =>
      intro b
      cases b with
      | nil => simp [PyData.eqvAll]
      | cons y q => simp only [List.map_cons, PyData.eqvAll, PyData.eqv, ih q]; by_cases h1 : x = y <;> by_cases h2 : r = q <;> simp [h1, h2]
  unfold dEq
  rw [if_pos ⟨sp a, sp b⟩]
  simp only [PyData.eqv]
  rw [ev]
theorem dEq_ints_nil (a : List Int) : dEq (.list (a.map PyData.int)) (.list []) = some (.bool (decide (a = []))) := dEq_ints a []
theorem dEq_L_nil (a : List Thing) : dEq (.list (a.map encD)) (.list []) = some (.bool (decide (a = []))) := dEq_L a []
end L2
set_option maxHeartbeats 4000000
namespace L2
open PySem PySem.Spec PyProof.Rows
abbrev PNs := PEnv → Option (List (List D))
def PuN (K : PySem.W.Frag) (te : TE) (f : PNs) : Prop := ∀ (O : List Addr) (σ : St) (H : Hp) (ρ : PEnv) (dss : List (List D)) (Q : VK), OkO O H → EnvR K (hid O H) σ ρ → f ρ = some dss →
  (∀ a ps H', Same H H' → (a :: ps).Nodup → (∀ b ∈ a :: ps, H b = none) → H' a = some (.lst (ps.map V.ref)) → Inner K (hid ((a :: ps) ++ O) H') H' ps dss → Q (.ref a) H') → te σ H Q
structure JN (X : Cx) (K : PySem.W.Frag) (e : Expr) (te : TE) (f : PNs) : Prop where
  pe : PE X e te
  pu : PuN K te f
section
variable {X : Cx} {K : PySem.W.Frag}
def PuAL (K : PySem.W.Frag) (t : TA) (f : PNs) : Prop := ∀ (O : List Addr) (σ : St) (H : Hp) (ρ : PEnv) (dss : List (List D)) (Q : List V → Hp → Prop), OkO O H → EnvR K (hid O H) σ ρ → f ρ = some dss →
  (∀ ps H', Same H H' → ps.Nodup → (∀ b ∈ ps, H b = none) → Inner K (hid (ps ++ O) H') H' ps dss → Q (ps.map V.ref) H') → t σ H Q
structure JAL (X : Cx) (K : PySem.W.Frag) (es : List Expr) (t : TA) (f : PNs) : Prop where
  pe : PA X es t
  pu : PuAL K t f
end
section
variable {K : PySem.W.Frag} {wi : TI} {g : TG} {tc : TT} {te : TE} {fi : PAs} {bd : D → PEnv → Option PEnv} {pt : PB} {fe : PAs}
end
section
variable {X : Cx} {K : PySem.W.Frag}
section
variable {i : Nat} {x : Str} {e : Expr} {te : TE} {pos pos' : Pos}
end
section
variable {tg elt iter : Expr} {ifs : List Expr} {scope : Scope} {wi : TI} {g : TG} {tc : TT} {te : TE} {fi : PAs} {bd : D → PEnv → Option PEnv} {pt : PB} {fe : PAs}
end
end
section
variable {P : Program} {w : World} {K : PySem.W.Frag} {mg : Str → Option Value} {base : Heap}
end
section
variable {K : PySem.W.Frag} {G H : Hp}
end
section
variable {X : Cx} {K : PySem.W.Frag} {pos : Pos}
end
section
variable {X : Cx} {K : PySem.W.Frag}
end
section
variable {X : Cx} {K : PySem.W.Frag} {pos : Pos}
end
end L2
set_option maxHeartbeats 4000000
namespace L2
open PySem PySem.Spec PyProof.Rows
abbrev PPrs := PEnv → Option (List D × D)
def PuPr (K : PySem.W.Frag) (te : TE) (f : PPrs) : Prop := ∀ (O : List Addr) (σ : St) (H : Hp) (ρ : PEnv) (ds : List D) (d : D) (Q : VK), OkO O H → EnvR K (hid O H) σ ρ → f ρ = some (ds, d) →
  (∀ p a xs v H', Same H H' → H a = none → H p = none → H' a = some (.lst xs) → H' p = some (.tup [.ref a, v]) → RepAll K (hid (a :: O) H') xs ds → Rep K (hid (a :: O) H') v d → Q (.ref p) H') → te σ H Q
structure JP (X : Cx) (K : PySem.W.Frag) (e : Expr) (te : TE) (f : PPrs) : Prop where
  pe : PE X e te
  pu : PuPr K te f
section
variable {X : Cx} {K : PySem.W.Frag}
end
section
variable {P : Program} {w : World} {K : PySem.W.Frag} {mg : Str → Option Value} {base : Heap}
end
end L2
set_option maxHeartbeats 4000000
set_option hygiene false
local macro_rules | `(tactic| walk_at "pu") => `(tactic| simp only [L2.pSq, L2.pSet, L2.vS, L2.vF, L2.vL, L2.vLF, L2.vLS, L2.vSL, L2.pOp, L2.pUn, L2.pVar, L2.pCon, L2.pTest, L2.pNotT, L2.pAndT, L2.pOrT, L2.pTrue, L2.pAnd, L2.pOr, L2.pNot, L2.pIf, L2.pChain, L2.pNil, L2.pCons, L2.pTup, L2.pLst, L2.pOfL, L2.pCall, L2.pCallL, L2.pIsi, L2.pRet, L2.pRetL, L2.pRetO, L2.pRetN, L2.pIfS, L2.pNx, L2.pDrop, L2.pApp, L2.pSetI, L2.pClear, L2.pSl, L2.pNoPart, L2.pPart, L2.pCat, L2.pItL, L2.pItT, L2.pAsg, L2.pRel, L2.full, L2.masked, L2.startP_eq,
  List.map_cons, List.map_nil, List.cons_append, List.nil_append, List.length_cons, List.length_nil, List.length_map, Nat.reduceAdd, Nat.reduceSub, Nat.zero_add, List.replicate_succ, List.replicate_zero, List.set_cons_succ, List.set_cons_zero, L2.getI0, L2.getIS, List.getElem?_cons_zero, List.getElem?_cons_succ, Option.join_some,
  L2.view_sh, L2.view_ow, L2.view_no, L2.mask_sh, L2.mask_ow, L2.mask_no, L2.bnd_some, L2.bnd_none, Option.map_some, L2.asB_bool, L2.asI_int, L2.asL_list, L2.asT_tup, L2.asSh_sh, L2.asOw_ow, L2.dAdd_int, L2.dSub_int, L2.dMul_int, L2.dMod_int, L2.dDiv_int, L2.dPow_ten, L2.tenP_pos, L2.dLt_int, L2.dLe_int, L2.dGt_int, L2.dGe_int, L2.dNeg_int, L2.dEq_int, L2.dNe_int, L2.dIx_list, L2.dIx_tup, L2.atI_zero, L2.atI_one, L2.atI_two,
  L2.gLen_list, L2.gLen_tup, L2.gList_list, L2.gList_tup, L2.gEnum_list, L2.gZip_list, L2.gMax_int, L2.gMin_int, L2.gInt_bool, L2.gInt_int, L2.flatD_int, L2.flatD_bool, L2.flatD_none, L2.flatD_tup, L2.flatAll_nil, L2.flatAll_cons, Bool.and_self, Bool.true_and, L2.ite_true', L2.ite_false', if_true, if_false, Bool.not_true, Bool.not_false, Bool.false_eq_true, L2.small_def, L2.fits_def, decide_true, decide_false, Bool.or_true, Bool.true_or, Bool.or_self, Bool.or_false, Bool.false_or, Bool.and_true, Bool.and_false, Bool.false_and, and_self, and_true, true_and, not_true_eq_false, not_false_eq_true, true_or, or_true, L2.dIsN, L2.dNotN, L2.isNon_none, L2.tyD_list, L2.tyD_tup, L2.tyD_bool, L2.tyD_int, L2.tyD_none, L2.subT_refl, L2.subT_ib, L2.subT_bi, eq_self, L2.dEq_ints_nil, L2.dEq_L_nil, L2.isNon_int, L2.isNon_list, L2.isNon_tup, L2.dEq_T, L2.dNe_T, L2.dNe_N, L2.dEq_N, L2.dEq_L, L2.dNe_L, L2.flat_T, L2.flat_Ts, Int.reduceLT, Int.reduceLE, Nat.reduceLT, Nat.reduceLeDiff, Int.reduceNeg, Int.reduceAdd, Int.reduceSub, Int.reduceMul, Nat.lt_irrefl, *])
set_option hygiene true
namespace LL
open PySem L2
def b__law_cell : PSt := (pSq (pIfS (pTest (pOp dLt (pVar 1) (pCall gLen (pCons (pVar 0) pNil))))
      (pRet (pOp dIx (pVar 0) (pVar 1))) pNx)
    (pRet (pCon (.int 0))))
def m__law_cell : List D → Option D := runF 2 2 b__law_cell
def b__law_spread : PSt := (pSq (pSet 1 (vS (pOp dMod (pOp dMul (pOp dAdd (pOp dMod (pVar 0) (pCon (.int 2147483629))) (pCon (.int 1))) (pCon (.int 1103515245))) (pCon (.int 2147483629)))))
    (pRet (pOp dAdd (pOp dMod (pOp dMul (pVar 1) (pVar 1)) (pCon (.int 2147483587))) (pOp dMul (pOp dMod (pVar 0) (pOp dPow (pCon (.int 10)) (pCon (.int 50)))) (pCon (.int 2147483587))))))
def m__law_spread : List D → Option D := runF 1 2 b__law_spread
def b__law_two : PSt := (pRet (pOp dIx (pOfL (pLst (pCons (pCon (.int 1)) (pCons (pCon (.int 2)) (pCons (pCon (.int 4)) (pCons (pCon (.int 8)) (pCons (pCon (.int 16)) pNil))))))) (pVar 0)))
def m__law_two : List D → Option D := runF 1 1 b__law_two
def tw (h : Int) : Int := 2 ^ h.toNat
theorem tw_of {h : Int} (h0 : 0 ≤ h) (h4 : h ≤ 4) : (h = 0 ∧ tw h = 1) ∨ (h = 1 ∧ tw h = 2) ∨ (h = 2 ∧ tw h = 4) ∨ (h = 3 ∧ tw h = 8) ∨ (h = 4 ∧ tw h = 16) := by
  have : h = 0 ∨ h = 1 ∨ h = 2 ∨ h = 3 ∨ h = 4 := by omega
  rcases this with rfl | rfl | rfl | rfl | rfl
  · exact .inl ⟨rfl, rfl⟩
  · exact .inr (.inl ⟨rfl, rfl⟩)
  · exact .inr (.inr (.inl ⟨rfl, rfl⟩))
  · exact .inr (.inr (.inr (.inl ⟨rfl, rfl⟩)))
  · exact .inr (.inr (.inr (.inr ⟨rfl, rfl⟩)))
structure Bd (t w st : Int) : Prop where
  t0 : 0 ≤ t
  t4 : t ≤ 4
  s1 : 1 ≤ st
  lo : st * (t + 2) ≤ w
  hi : w ≤ 20
theorem Bd.w1 {t w st : Int} (b : Bd t w st) : 1 ≤ w := by
  have : st * 1 ≤ st * (t + 2) := Int.mul_le_mul_of_nonneg_left (by have := b.t0; omega) (by have := b.s1; omega)
  have := b.lo; have := b.s1; omega
def keysOf (ts : List Thing) : List Int := ts.filterMap fun t => t.map (·.1)
def Rises (ts : List Thing) : Prop := (keysOf ts).Pairwise (· < ·)
theorem at_mem {α : Type} (xs : List α) {i : Int} (h0 : 0 ≤ i) (h1 : i < xs.length) : ∃ v, v ∈ xs ∧ atI xs i = some v := by
  obtain ⟨j, rfl⟩ : ∃ j : Nat, i = (j : Int) := ⟨i.toNat, by omega⟩
  have hj : j < xs.length := by omega
  exact ⟨xs[j], List.getElem_mem hj, by rw [atI_ofNat]; simp [hj]⟩
theorem cell_ex (ns : List Int) {k : Int} (hk : 0 ≤ k) : ∃ c, m__law_cell [.list (ns.map .int), .int k] = some (.int c) := by
  by_cases h : k < (ns.map PyData.int).length
  · obtain ⟨v, hv, ev⟩ := at_mem (ns.map PyData.int) hk h
    obtain ⟨c, _, rfl⟩ := List.mem_map.mp hv
    refine ⟨c, runF_of (o := .rt (.int c)) rfl ?_ rfl⟩
    rw [List.length_map] at h
    clear hv
    unfold b__law_cell
    walk_at "pu"
  · refine ⟨0, runF_of (o := .rt (.int 0)) rfl ?_ rfl⟩
    rw [List.length_map] at h
    unfold b__law_cell
    walk_at "pu"
theorem m_pos (a : Int) {b : Int} (h : 0 < b) : 0 ≤ a % b ∧ a % b < b := ⟨Int.emod_nonneg _ (Int.ne_of_gt h), Int.emod_lt_of_pos _ h⟩
theorem spread_ex (c : Int) : ∃ z, m__law_spread [.int c] = some (.int z) ∧ 0 ≤ z := by
  have h1 := m_pos ((c % 2147483629 + 1) * 1103515245) (b := 2147483629) (by decide)
  have s1 : -18446744073709551616 < (c % 2147483629 + 1) * 1103515245 % 2147483629 ∧ (c % 2147483629 + 1) * 1103515245 % 2147483629 < 18446744073709551616 := ⟨by omega, by omega⟩
  refine ⟨(c % 2147483629 + 1) * 1103515245 % 2147483629 * ((c % 2147483629 + 1) * 1103515245 % 2147483629) % 2147483587 + c % tenP 50 * 2147483587, runF_of (o := .rt (.int _)) rfl ?_ rfl, ?_⟩
  · unfold b__law_spread
    walk_at "pu"
  · have := m_pos ((c % 2147483629 + 1) * 1103515245 % 2147483629 * ((c % 2147483629 + 1) * 1103515245 % 2147483629)) (b := 2147483587) (by decide)
    have := m_pos c (b := tenP 50) (tenP_pos _)
    omega
theorem two_eq {h : Int} (h0 : 0 ≤ h) (h4 : h ≤ 4) : m__law_two [.int h] = some (.int (tw h)) := by
  rcases tw_of h0 h4 with ⟨rfl, e⟩ | ⟨rfl, e⟩ | ⟨rfl, e⟩ | ⟨rfl, e⟩ | ⟨rfl, e⟩ <;> rw [e] <;> rfl
end LL
set_option maxHeartbeats 4000000
namespace LL
open PySem L2
def l_done_1 : PSt := (pSetI 2 (pVar 3) (vS (pVar 4)))
def b_done : PSt := (pSq (pSet 2 (vL (pCallL gList (pCons (pVar 0) pNil))))
    (pSq (pFor (pItL (pVar 1)) (bs2 3 4) l_done_1)
    (pRetO 2)))
def m_done : List D → Option (List D) := runL 2 5 b_done
def b_held : PSt := (pRet (pCall gLen (pCons (pOfL (pComp (pCallL gEnum (pCons (pVar 0) pNil)) (bd2 0 1) (pAndT (pTest (pChain dLe dLt (pVar 2) (pVar 0) (pVar 3))) (pTest (pOp dNe (pVar 1) (pTup pNil)))) (pVar 1) 2 [1, 2])) pNil)))
def m_held : List D → Option D := runF 3 3 b_held
def things (ts : List Thing) : List (Int × Int) := ts.filterMap id
theorem keysOf_things (ts : List Thing) : keysOf ts = (things ts).map (·.1) := by
  unfold keysOf things
  rw [List.map_filterMap]
  rfl
theorem things_app (a b : List Thing) : things (a ++ b) = things a ++ things b := List.filterMap_append
theorem things_some (x : Int × Int) (a : List Thing) : things (some x :: a) = x :: things a := rfl
theorem keysOf_app (a b : List Thing) : keysOf (a ++ b) = keysOf a ++ keysOf b := List.filterMap_append
theorem keysOf_none (a : List Thing) : keysOf (none :: a) = keysOf a := rfl
theorem keysOf_some (x : Int × Int) (a : List Thing) : keysOf (some x :: a) = x.1 :: keysOf a := rfl
theorem ixN_nat {n j : Nat} (h : j < n) : ixN n (j : Int) = some j := by
  unfold ixN
  rw [if_pos (by omega), if_pos (by omega)]
  simp
def encW (q : Nat × Thing) : D := .tuple [.int (q.1 : Nat), encD q.2]
def doneF (ts : List Thing) (ws : List (Nat × Thing)) : List Thing := ws.foldl (fun l q => l.set q.1 q.2) ts
theorem doneF_length : ∀ (ws : List (Nat × Thing)) (ts : List Thing), (doneF ts ws).length = ts.length
  | [], _ => rfl
  | q :: r, ts => by
    show (doneF (ts.set q.1 q.2) r).length = _
    rw [doneF_length r]
    simp
theorem done_eq (ts : List Thing) (ws : List (Nat × Thing)) (h : ∀ q ∈ ws, q.1 < ts.length) : m_done [.list (ts.map encD), .list (ws.map encW)] = some ((doneF ts ws).map encD) := by
  have loop := for_inv (bs := bs2 3 4) (F := l_done_1) encW (fun (us : List Thing) ρ => us.length = ts.length ∧ ∃ s3 s4, ρ = [.sh (.list (ts.map encD)), .sh (.list (ws.map encW)), .ow (us.map encD), s3, s4]) (fun l q => l.set q.1 q.2) ws ?_ ts
    [.sh (.list (ts.map encD)), .sh (.list (ws.map encW)), .ow (ts.map encD), .no, .no] ⟨rfl, .no, .no, rfl⟩
  · obtain ⟨ρ', hf, _, s3, s4, rfl⟩ := loop
    refine runL_of rfl ?_
    unfold b_done
    refine sq_nx (ρ' := [.sh (.list (ts.map encD)), .sh (.list (ws.map encW)), .ow (ts.map encD), .no, .no]) (by walk_at "pu") ?_
    exact sq_nx ((for_eq (items := ws.map encW) (by walk_at "pu")).trans hf) (by walk_at "pu"; rfl)
  · rintro us ρ q hq ⟨hl, s3, s4, rfl⟩
    have hi := ixN_nat (n := ts.length) (j := q.1) (h q hq)
    refine ⟨_, [.sh (.list (ts.map encD)), .sh (.list (ws.map encW)), .ow ((us.map encD).set q.1 (encD q.2)), .sh (.int (q.1 : Nat)), .sh (encD q.2)], rfl, ?_, by simp [hl], .sh (.int (q.1 : Nat)), .sh (encD q.2), by rw [List.map_set]⟩
    unfold l_done_1
    walk_at "pu"
def optI : Option Nat → D
  | none => .none
  | some n => .int (n : Nat)
def full' (t : Thing) : Bool := !decide (t = none)
instance (ts : List Thing) : Decidable (Rises ts) := inferInstanceAs (Decidable ((keysOf ts).Pairwise (· < ·)))
theorem cutD_map {α : Type} (f : α → D) (xs : List α) (lo hi : Option Int) : ∃ ys : List α, cutD (xs.map f) lo hi = ys.map f ∧ ys.length ≤ xs.length := by
  refine ⟨(xs.drop (HT.sIx xs.length 0 lo)).take (HT.sIx xs.length xs.length hi - HT.sIx xs.length 0 lo), ?_, ?_⟩
  · unfold cutD
    rw [List.length_map, List.map_take, List.map_drop]
  · rw [List.length_take, List.length_drop]
    omega
theorem things_comp (ts : List Thing) (hl : ts.length < 16777216) {fi : PAs} {ρ : PEnv} (h : fi ρ = some (ts.map encD)) : pComp fi (bd1 0) (pTest (pOp dNe (pVar 0) (pTup pNil))) (pVar 0) 1 [] ρ = some ((ts.filter full').map encD) := by
  rw [comp_eq h (by simpa using hl), compP_map encD full' encD]
  intro t _
  refine ⟨_, rfl, ?_, fun _ => rfl⟩
  show pTest _ [some (encD t)] = some (!decide (t = none))
  walk_at "pu"
end LL
set_option maxHeartbeats 4000000
namespace LL
open PySem L2
abbrev Pr := Int × Int
abbrev PP := List (Nat × Pr)
def posT : Nat → List Thing → PP
  | _, [] => []
  | k, none :: r => posT (k + 1) r
  | k, some x :: r => (k, x) :: posT (k + 1) r
def insP (a : Nat) (x : Pr) : PP → PP
  | [] => [(a, x)]
  | (p, y) :: r => if a < p then (a, x) :: (p, y) :: r else if a = p then (a, x) :: r else (p, y) :: insP a x r
theorem posT_ge : ∀ (s : List Thing) (k : Nat), ∀ p ∈ posT k s, k ≤ p.1 ∧ p.1 < k + s.length
  | [], k, p, h => by cases h
  | none :: r, k, p, h => by
    have := posT_ge r (k + 1) p h
    simp; omega
  | some x :: r, k, p, h => by
    rcases List.mem_cons.mp h with rfl | h
    · simp
    · have := posT_ge r (k + 1) p h
      simp; omega
theorem posT_sorted : ∀ (s : List Thing) (k : Nat), (posT k s).Pairwise (fun a b => a.1 < b.1)
  | [], _ => .nil
  | none :: r, k => posT_sorted r (k + 1)
  | some x :: r, k => .cons (fun p hp => by have := posT_ge r (k + 1) p hp; show k < p.1; omega) (posT_sorted r (k + 1))
theorem posT_things : ∀ (s : List Thing) (k : Nat), (posT k s).map (·.2) = things s
  | [], _ => rfl
  | none :: r, k => posT_things r (k + 1)
  | some x :: r, k => by
    show x :: (posT (k + 1) r).map (·.2) = x :: things r
    rw [posT_things r (k + 1)]
theorem posT_get : ∀ (s : List Thing) (k j : Nat) (x : Pr), s[j]? = some (some x) ↔ (k + j, x) ∈ posT k s
  | [], k, j, x => by simp [posT]
  | none :: r, k, 0, x => by
    constructor
    · intro h; simp at h
    · intro h; have := posT_ge r (k + 1) _ h; simp at this; omega
  | none :: r, k, j + 1, x => by
    have := posT_get r (k + 1) j x
    have e : k + 1 + j = k + (j + 1) := by omega
    rw [e] at this
    rw [List.getElem?_cons_succ]
    exact this
  | some y :: r, k, 0, x => by
    constructor
    · intro h; simp at h; subst h; exact List.mem_cons_self
    · intro h
      rcases List.mem_cons.mp h with h | h
      · have : x = y := (Prod.mk.inj h).2
        rw [this]; rfl
      · have := posT_ge r (k + 1) _ h; simp at this; omega
  | some y :: r, k, j + 1, x => by
    have := posT_get r (k + 1) j x
    have e : k + 1 + j = k + (j + 1) := by omega
    rw [e] at this
    rw [List.getElem?_cons_succ, this]
    constructor
    · intro h; exact List.mem_cons_of_mem _ h
    · intro h
      rcases List.mem_cons.mp h with h | h
      · have := (Prod.mk.inj h).1; omega
      · exact h
theorem filter_ge {k j : Nat} : ∀ (ps : PP), (∀ p ∈ ps, k + j < p.1 ∨ p.1 < k + j) → ps.filter (fun p => decide (p.1 ≠ k + j)) = ps := fun ps h =>
  List.filter_eq_self.mpr fun p hp => by
    have := h p hp
    exact decide_eq_true (by omega)
theorem posT_clear : ∀ (s : List Thing) (k j : Nat), posT k (s.set j none) = (posT k s).filter (fun p => decide (p.1 ≠ k + j))
  | [], k, j => rfl
  | none :: r, k, 0 => by
    rw [List.set_cons_zero]
    show posT (k + 1) r = (posT (k + 1) r).filter _
    rw [filter_ge (k := k) (j := 0) (posT (k + 1) r) fun p hp => by have := posT_ge r (k + 1) p hp; omega]
  | none :: r, k, j + 1 => by
    rw [List.set_cons_succ]
    show posT (k + 1) (r.set j none) = (posT (k + 1) r).filter _
    rw [posT_clear r (k + 1) j]
    have e : k + 1 + j = k + (j + 1) := by omega
    rw [e]
  | some x :: r, k, 0 => by
    rw [List.set_cons_zero]
    show posT (k + 1) r = ((k, x) :: posT (k + 1) r).filter _
    rw [List.filter_cons_of_neg (by simp), filter_ge (k := k) (j := 0) (posT (k + 1) r) fun p hp => by have := posT_ge r (k + 1) p hp; omega]
  | some x :: r, k, j + 1 => by
    rw [List.set_cons_succ]
    show (k, x) :: posT (k + 1) (r.set j none) = ((k, x) :: posT (k + 1) r).filter _
    rw [List.filter_cons_of_pos (by simp), posT_clear r (k + 1) j]
    have e : k + 1 + j = k + (j + 1) := by omega
    rw [e]
theorem insP_lt {a : Nat} {x : Pr} : ∀ {ps : PP}, (∀ p ∈ ps, a < p.1) → insP a x ps = (a, x) :: ps
  | [], _ => rfl
  | (p, y) :: r, h => by
    have := h (p, y) List.mem_cons_self
    unfold insP
    rw [if_pos this]
theorem posT_lay : ∀ (s : List Thing) (k j : Nat) (x : Pr), j < s.length → posT k (s.set j (some x)) = insP (k + j) x (posT k s)
  | [], k, j, x, h => by simp at h
  | none :: r, k, 0, x, h => by
    rw [List.set_cons_zero]
    show (k, x) :: posT (k + 1) r = insP (k + 0) x (posT (k + 1) r)
    rw [insP_lt fun p hp => by have := posT_ge r (k + 1) p hp; omega]
    rfl
  | none :: r, k, j + 1, x, h => by
    rw [List.set_cons_succ]
    show posT (k + 1) (r.set j (some x)) = insP _ x (posT (k + 1) r)
    rw [posT_lay r (k + 1) j x (by simpa using h)]
    have e : k + 1 + j = k + (j + 1) := by omega
    rw [e]
  | some y :: r, k, 0, x, h => by
    rw [List.set_cons_zero]
    show (k, x) :: posT (k + 1) r = insP (k + 0) x ((k, y) :: posT (k + 1) r)
    unfold insP
    rw [if_neg (by omega), if_pos (by omega)]
    rfl
  | some y :: r, k, j + 1, x, h => by
    rw [List.set_cons_succ]
    show (k, y) :: posT (k + 1) (r.set j (some x)) = insP _ x ((k, y) :: posT (k + 1) r)
    rw [posT_lay r (k + 1) j x (by simpa using h)]
    have e : k + 1 + j = k + (j + 1) := by omega
    rw [e]
    conv => rhs; unfold insP
    rw [if_neg (by omega), if_neg (by omega)]
theorem posT_inj : ∀ (s t : List Thing) (k : Nat), s.length = t.length → posT k s = posT k t → s = t
  | [], [], _, _, _ => rfl
  | [], _ :: _, _, h, _ => by simp at h
  | _ :: _, [], _, h, _ => by simp at h
  | a :: r, b :: q, k, h, e => by
    have hl : r.length = q.length := by simpa using h
    cases a with
    | none => cases b with
      | none => rw [posT_inj r q (k + 1) hl e]
      | some y =>
        have e' : posT (k + 1) r = (k, y) :: posT (k + 1) q := e
        have : (k, y) ∈ posT (k + 1) r := by rw [e']; exact List.mem_cons_self
        have := posT_ge r (k + 1) _ this
        simp at this; omega
    | some x => cases b with
      | none =>
        have e' : (k, x) :: posT (k + 1) r = posT (k + 1) q := e
        have : (k, x) ∈ posT (k + 1) q := by rw [← e']; exact List.mem_cons_self
        have := posT_ge q (k + 1) _ this
        simp at this; omega
      | some y =>
        have e' : (k, x) :: posT (k + 1) r = (k, y) :: posT (k + 1) q := e
        have h1 := List.cons.inj e'
        have h2 := (Prod.mk.inj h1.1).2
        rw [h2, posT_inj r q (k + 1) hl h1.2]
theorem insP_mid {a : Nat} {x : Pr} : ∀ {L R : PP}, (∀ p ∈ L, p.1 < a) → (∀ p ∈ R, a < p.1) → insP a x (L ++ R) = L ++ (a, x) :: R
  | [], R, _, h => insP_lt h
  | (p, y) :: r, R, h, h2 => by
    have := h (p, y) List.mem_cons_self
    rw [List.cons_append]
    unfold insP
    rw [if_neg (show ¬ a < p by simp at this; omega), if_neg (show ¬ a = p by simp at this; omega), insP_mid (fun q hq => h q (List.mem_cons_of_mem _ hq)) h2]
    rfl
theorem filter_out {c : Nat} {x : Pr} {L R : PP} (hL : ∀ p ∈ L, p.1 ≠ c) (hR : ∀ p ∈ R, p.1 ≠ c) : (L ++ (c, x) :: R).filter (fun p => decide (p.1 ≠ c)) = L ++ R := by
  rw [List.filter_append, List.filter_cons_of_neg (by simp), List.filter_eq_self.mpr fun p hp => decide_eq_true (hL p hp), List.filter_eq_self.mpr fun p hp => decide_eq_true (hR p hp)]
structure Mv (s : List Thing) (c a : Nat) (x : Pr) (L R : PP) : Prop where
  eq : posT 0 s = L ++ (c, x) :: R
  ne : c ≠ a
  lt : a < s.length
  lo : ∀ p ∈ L, p.1 < c ∧ p.1 < a
  hi : ∀ p ∈ R, c < p.1 ∧ a < p.1
theorem Mv.first {s : List Thing} {c a : Nat} {x : Pr} {L R : PP} (m : Mv s c a x L R) : posT 0 (s.set a (some x)) = if c < a then L ++ (c, x) :: (a, x) :: R else L ++ (a, x) :: (c, x) :: R := by
  have := posT_lay s 0 a x m.lt
  rw [Nat.zero_add] at this
  rw [this, m.eq]
  by_cases h : c < a
  · rw [if_pos h]
    have e : L ++ (c, x) :: R = (L ++ [(c, x)]) ++ R := by simp
    rw [e, insP_mid]
    · simp
    · intro p hp
      rcases List.mem_append.mp hp with hp | hp
      · exact (m.lo p hp).2
      · rw [List.mem_singleton.mp hp]; exact h
    · exact fun p hp => (m.hi p hp).2
  · rw [if_neg h, insP_mid]
    · exact fun p hp => (m.lo p hp).2
    · intro p hp
      rcases List.mem_cons.mp hp with rfl | hp
      · have := m.ne; show a < c; omega
      · exact (m.hi p hp).2
theorem Mv.both {s : List Thing} {c a : Nat} {x : Pr} {L R : PP} (m : Mv s c a x L R) : posT 0 ((s.set a (some x)).set c none) = L ++ (a, x) :: R := by
  have := posT_clear (s.set a (some x)) 0 c
  rw [Nat.zero_add] at this
  rw [this, m.first]
  have hne := m.ne
  have hL : ∀ p ∈ L, p.1 ≠ c := fun p hp => by have := m.lo p hp; omega
  have hR : ∀ p ∈ R, p.1 ≠ c := fun p hp => by have := m.hi p hp; omega
  by_cases h : c < a
  · rw [if_pos h]
    rw [filter_out hL (R := (a, x) :: R)]
    intro p hp
    rcases List.mem_cons.mp hp with rfl | hp
    · show a ≠ c; omega
    · exact hR p hp
  · rw [if_neg h]
    have e : L ++ (a, x) :: (c, x) :: R = (L ++ [(a, x)]) ++ (c, x) :: R := by simp
    rw [e, filter_out _ hR]
    · simp
    · intro p hp
      rcases List.mem_append.mp hp with hp | hp
      · exact hL p hp
      · rw [List.mem_singleton.mp hp]; show a ≠ c; omega
theorem Mv.free {s : List Thing} {c a : Nat} {x : Pr} {L R : PP} (m : Mv s c a x L R) : s[a]? = some none := by
  have ha := m.lt
  cases h : s[a]? with
  | none => have := List.getElem?_eq_none_iff.mp h; omega
  | some t =>
    cases t with
    | none => rfl
    | some y =>
      have := (posT_get s 0 a y).mp h
      rw [Nat.zero_add, m.eq] at this
      have hne := m.ne
      rcases List.mem_append.mp this with h1 | h1
      · have := m.lo _ h1; simp at this
      · rcases List.mem_cons.mp h1 with h1 | h1
        · have := (Prod.mk.inj h1).1; omega
        · have := m.hi _ h1; simp at this
abbrev Tr := Nat × Nat × Pr
def onw (l : List Tr) : List Tr := (l.filter fun t => decide (t.1 < t.2.1)).reverse
def bkw (l : List Tr) : List Tr := l.filter fun t => decide (t.2.1 < t.1)
def at0 (l : List Tr) : PP := l.map fun t => (t.1, t.2.2)
def at1 (l : List Tr) : PP := l.map fun t => (max t.1 t.2.1, t.2.2)
def at2 (l : List Tr) : PP := l.map fun t => (t.2.1, t.2.2)
def mvW (s : List Thing) (t : Tr) : List Thing := (s.set t.2.1 (some t.2.2)).set t.1 none
inductive Run (P : List Thing → Tr → Prop) : List Thing → List Tr → List Thing → Prop
  | nil (s : List Thing) : Run P s [] s
  | cons {s s' : List Thing} {t : Tr} {l : List Tr} : P s t → Run P (mvW s t) l s' → Run P s (t :: l) s'
theorem Run.append {P : List Thing → Tr → Prop} {s s' s'' : List Thing} {l l' : List Tr} (a : Run P s l s') (b : Run P s' l' s'') : Run P s (l ++ l') s'' := by
  induction a with
  | nil => exact b
  | cons p _ ih => exact .cons p (ih b)
def IsMv (s : List Thing) (t : Tr) : Prop := ∃ L R, Mv s t.1 t.2.1 t.2.2 L R
def Up (l : List Tr) : Prop := l.Pairwise fun a b => a.1 < b.1 ∧ a.2.1 < b.2.1
theorem mvW_length (s : List Thing) (t : Tr) : (mvW s t).length = s.length := by simp [mvW]
theorem run_onw : ∀ (l : List Tr) (L : PP) (s : List Thing), posT 0 s = L ++ at0 l → Up l → (∀ t ∈ l, t.2.1 < s.length) → (∀ p ∈ L, ∀ t ∈ l, p.1 < t.1) → ∃ s', Run IsMv s (onw l) s' ∧ posT 0 s' = L ++ at1 l ∧ s'.length = s.length
  | [], L, s, h, _, _, _ => ⟨s, .nil s, h, rfl⟩
  | t :: r, L, s, h, hu, hl, hL => by
    have hu' := List.pairwise_cons.mp hu
    obtain ⟨s1, r1, p1, l1⟩ := run_onw r (L ++ [(t.1, t.2.2)]) s (by rw [h]; simp [at0]) hu'.2 (fun u hu => hl u (List.mem_cons_of_mem _ hu)) (fun p hp u hu => by
      rcases List.mem_append.mp hp with hp | hp
      · exact hL p hp u (List.mem_cons_of_mem _ hu)
      · rw [List.mem_singleton.mp hp]; exact (hu'.1 u hu).1)
    by_cases ht : t.1 < t.2.1
    · have hm : Mv s1 t.1 t.2.1 t.2.2 L (at1 r) := ⟨by rw [p1]; simp, by omega, by rw [l1]; exact hl t List.mem_cons_self, fun p hp => by have := hL p hp t List.mem_cons_self; omega, fun p hp => by
        obtain ⟨u, hu, rfl⟩ := List.mem_map.mp hp
        have := hu'.1 u hu
        show t.1 < max u.1 u.2.1 ∧ t.2.1 < max u.1 u.2.1
        omega⟩
      refine ⟨mvW s1 t, ?_, ?_, by rw [mvW_length, l1]⟩
      · have e : onw (t :: r) = onw r ++ [t] := by
          unfold onw
          rw [List.filter_cons_of_pos (by simpa using ht), List.reverse_cons]
        rw [e]
        exact r1.append (.cons ⟨L, at1 r, hm⟩ (.nil _))
      · show posT 0 ((s1.set t.2.1 (some t.2.2)).set t.1 none) = _
        rw [hm.both]
        simp only [at1, List.map_cons]
        have e : max t.1 t.2.1 = t.2.1 := by omega
        rw [e]
    · refine ⟨s1, ?_, ?_, l1⟩
      · have e : onw (t :: r) = onw r := by
          unfold onw
          rw [List.filter_cons_of_neg (by simpa using ht)]
        rw [e]
        exact r1
      · rw [p1]
        simp only [at1, List.map_cons, List.append_assoc, List.cons_append, List.nil_append]
        have e : max t.1 t.2.1 = t.1 := by omega
        rw [e]
theorem run_bkw : ∀ (l : List Tr) (L : PP) (s : List Thing), posT 0 s = L ++ at1 l → Up l → (∀ t ∈ l, t.2.1 < s.length) → (∀ p ∈ L, ∀ t ∈ l, p.1 < t.2.1) → ∃ s', Run IsMv s (bkw l) s' ∧ posT 0 s' = L ++ at2 l ∧ s'.length = s.length
  | [], L, s, h, _, _, _ => ⟨s, .nil s, h, rfl⟩
  | t :: r, L, s, h, hu, hl, hL => by
    have hu' := List.pairwise_cons.mp hu
    have next : ∀ s1 : List Thing, posT 0 s1 = L ++ (t.2.1, t.2.2) :: at1 r → s1.length = s.length → ∃ s', Run IsMv s1 (bkw r) s' ∧ posT 0 s' = L ++ at2 (t :: r) ∧ s'.length = s.length := fun s1 h1 l1 => by
      obtain ⟨s', r1, p1, l2⟩ := run_bkw r (L ++ [(t.2.1, t.2.2)]) s1 (by rw [h1]; simp) hu'.2 (fun u hu => by rw [l1]; exact hl u (List.mem_cons_of_mem _ hu)) (fun p hp u hu => by
        rcases List.mem_append.mp hp with hp | hp
        · exact hL p hp u (List.mem_cons_of_mem _ hu)
        · rw [List.mem_singleton.mp hp]; exact (hu'.1 u hu).2)
      exact ⟨s', r1, by rw [p1]; simp [at2], by rw [l2, l1]⟩
    by_cases ht : t.2.1 < t.1
    · have e1 : max t.1 t.2.1 = t.1 := by omega
      have hm : Mv s t.1 t.2.1 t.2.2 L (at1 r) := ⟨by rw [h]; simp only [at1, List.map_cons, e1], by omega, hl t List.mem_cons_self, fun p hp => by have := hL p hp t List.mem_cons_self; omega, fun p hp => by
        obtain ⟨u, hu, rfl⟩ := List.mem_map.mp hp
        have := hu'.1 u hu
        show t.1 < max u.1 u.2.1 ∧ t.2.1 < max u.1 u.2.1
        omega⟩
      obtain ⟨s', r1, p1, l1⟩ := next (mvW s t) hm.both (mvW_length s t)
      refine ⟨s', ?_, p1, l1⟩
      have e : bkw (t :: r) = t :: bkw r := by
        unfold bkw
        rw [List.filter_cons_of_pos (by simpa using ht)]
      rw [e]
      exact .cons ⟨L, at1 r, hm⟩ r1
    · have e1 : max t.1 t.2.1 = t.2.1 := by omega
      obtain ⟨s', r1, p1, l1⟩ := next s (by rw [h]; simp only [at1, List.map_cons, e1]) rfl
      refine ⟨s', ?_, p1, l1⟩
      have e : bkw (t :: r) = bkw r := by
        unfold bkw
        rw [List.filter_cons_of_neg (by simpa using ht)]
      rw [e]
      exact r1
theorem run_all (l : List Tr) (s : List Thing) (h : posT 0 s = at0 l) (hu : Up l) (hl : ∀ t ∈ l, t.2.1 < s.length) : ∃ s', Run IsMv s (onw l ++ bkw l) s' ∧ posT 0 s' = at2 l ∧ s'.length = s.length := by
  obtain ⟨s1, r1, p1, l1⟩ := run_onw l [] s (by rw [h]; rfl) hu hl (fun p hp => by cases hp)
  obtain ⟨s2, r2, p2, l2⟩ := run_bkw l [] s1 (by rw [p1]) hu (fun t ht => by rw [l1]; exact hl t ht) (fun p hp => by cases hp)
  exact ⟨s2, r1.append r2, by rw [p2]; rfl, by rw [l2, l1]⟩
end LL
set_option maxHeartbeats 4000000
namespace LL
open PySem L2
def l__law_rows_1 : PSt := (pIfS (pAndT (pTest (pOp dNe (pVar 2) (pTup pNil))) (pOrT (pTest (pOp dEq (pVar 1) (pOfL (pLst pNil)))) (pTest (pOp dNe (pOp dIx (pVar 1) (pUn dNeg (pCon (.int 1)))) (pVar 2)))))
        (pApp 1 (vS (pVar 2))) pNx)
def b__law_rows : PSt := (pSq (pSet 1 (vL (pLst pNil)))
    (pSq (pFor (pItL (pVar 0)) (bs1 2) l__law_rows_1)
    (pRetO 1)))
def m__law_rows : List D → Option (List D) := runL 1 3 b__law_rows
def l__law_sound_1 : PSt := (pIfS (pTest (pOp dLe (pOp dIx (pOp dIx (pVar 1) (pVar 2)) (pCon (.int 0))) (pOp dIx (pOp dIx (pVar 1) (pOp dSub (pVar 2) (pCon (.int 1)))) (pCon (.int 0)))))
        (pRet (pCon (.bool false))) pNx)
def b__law_sound : PSt := (pSq (pSet 1 (vS (pOfL (pCallL m__law_rows (pCons (pVar 0) pNil)))))
    (pSq (pFor (pCallL gRange2 (pCons (pCon (.int 1)) (pCons (pCall gLen (pCons (pVar 1) pNil)) pNil))) (bs1 2) l__law_sound_1)
    (pRet (pOp dLe (pCall gLen (pCons (pOfL (pComp (pItL (pVar 0)) (bd1 0) (pTest (pOp dNe (pVar 0) (pTup pNil))) (pVar 0) 1 [])) pNil)) (pOp dAdd (pCall gLen (pCons (pVar 1) pNil)) (pCon (.int 1)))))))
def m__law_sound : List D → Option D := runF 1 3 b__law_sound
def b__law_small : PSt := (pSq (pSet 1 (vS (pCall m__law_spread (pCons (pVar 0) pNil))))
    (pSq (pSet 2 (vS (pOp dIx (pOfL (pLst (pCons (pCon (.int 0)) (pCons (pCon (.int 1)) (pCons (pCon (.int 1)) (pCons (pCon (.int 2)) (pCons (pCon (.int 2)) (pCons (pCon (.int 2)) (pCons (pCon (.int 3)) (pCons (pCon (.int 4)) pNil)))))))))) (pOp dMod (pVar 1) (pCon (.int 8))))))
    (pSq (pSet 3 (vS (pOp dAdd (pCon (.int 1)) (pOp dMod (pOp dDiv (pVar 1) (pCon (.int 8))) (pOp dDiv (pCon (.int 9)) (pOp dAdd (pVar 2) (pCon (.int 2))))))))
    (pSq (pSet 4 (vS (pOp dMod (pOp dDiv (pVar 1) (pCon (.int 320))) (pOp dIx (pOfL (pLst (pCons (pCon (.int 3)) (pCons (pOp dIx (pOfL (pLst (pCons (pCon (.int 9)) (pCons (pCon (.int 9)) (pCons (pCon (.int 7)) (pCons (pCon (.int 3)) (pCons (pCon (.int 3)) pNil))))))) (pVar 2)) pNil)))) (pOp dMod (pOp dDiv (pVar 1) (pCon (.int 160))) (pCon (.int 2)))))))
    (pRet (pTup (pCons (pVar 2) (pCons (pOp dAdd (pOp dMul (pVar 3) (pOp dAdd (pVar 2) (pCon (.int 2)))) (pVar 4)) (pCons (pVar 3) pNil)))))))))
def m__law_small : List D → Option D := runF 1 5 b__law_small
def b__law_held : PSt := (pRet (pCall gLen (pCons (pOfL (pComp (pItL (pOfL (pSl (pVar 0) (pPart (pVar 1)) (pPart (pVar 2))))) (bd1 0) (pTest (pOp dNe (pVar 0) (pTup pNil))) (pVar 0) 1 [])) pNil)))
def m__law_held : List D → Option D := runF 3 3 b__law_held
theorem for_pre {α : Type} {bs : D → SEnv → Option SEnv} {F : PSt} (enc : α → D) (R : List α → SEnv → Prop) (xs : List α) (H : ∀ pre x post ρ, xs = pre ++ x :: post → R pre ρ → ∃ ρ1 ρ2, bs (enc x) ρ = some ρ1 ∧ F ρ1 = some (.nx ρ2) ∧ R (pre ++ [x]) ρ2) (ρ : SEnv) (h : R [] ρ) :
    ∃ ρ', forP bs F (xs.map enc) ρ = some (.nx ρ') ∧ R xs ρ' := by
  have key : ∀ (post pre : List α) (ρ : SEnv), xs = pre ++ post → R pre ρ → ∃ ρ', forP bs F (post.map enc) ρ = some (.nx ρ') ∧ R xs ρ' := by
    intro post
    induction post with
    | nil => intro pre ρ e r; rw [List.append_nil] at e; subst e; exact ⟨ρ, rfl, r⟩
    | cons x post ih =>
      intro pre ρ e r
      obtain ⟨ρ1, ρ2, h1, h2, r2⟩ := H pre x post ρ e r
      obtain ⟨ρ', h3, r3⟩ := ih (pre ++ [x]) ρ2 (by rw [e]; simp) r2
      exact ⟨ρ', by rw [List.map_cons, forP_nx h1 h2]; exact h3, r3⟩
  exact key xs [] ρ rfl h
def encP (x : Pr) : D := .tuple [.int x.1, .int x.2]
theorem filter_things (ts : List Thing) : (ts.filter full').map encD = (things ts).map encP := by
  induction ts with
  | nil => rfl
  | cons t r ih =>
    cases t with
    | none => exact ih
    | some x => rw [things_some, List.map_cons, ← ih]; rfl
theorem map_encP (X : List Pr) : X.map encP = (X.map some).map encD := by rw [List.map_map]; rfl
theorem dEq_PL (X Y : List Pr) : dEq (.list (X.map encP)) (.list (Y.map encP)) = some (.bool (decide (X = Y))) := by
  rw [map_encP, map_encP, dEq_L]
  have e : (X.map some = Y.map some) ↔ X = Y := List.map_inj_right (fun _ _ h => Option.some.inj h)
  rw [decide_eq_decide.mpr e]
theorem dNe_PL (X Y : List Pr) : dNe (.list (X.map encP)) (.list (Y.map encP)) = some (.bool (!decide (X = Y))) := by
  rw [map_encP, map_encP, dNe_L]
  have e : (X.map some = Y.map some) ↔ X = Y := List.map_inj_right (fun _ _ h => Option.some.inj h)
  rw [decide_eq_decide.mpr e]
def ddF (acc : List Pr) (x : Pr) : List Pr := if acc.getLast? = some x then acc else acc ++ [x]
def dd (X : List Pr) : List Pr := X.foldl ddF []
theorem dd_snoc (X : List Pr) (x : Pr) : dd (X ++ [x]) = ddF (dd X) x := by
  unfold dd
  rw [List.foldl_append]
  rfl
theorem dd_length (X : List Pr) : (dd X).length ≤ X.length := by
  have key : ∀ (X acc : List Pr), (X.foldl ddF acc).length ≤ acc.length + X.length := by
    intro X
    induction X with
    | nil => intro acc; simp
    | cons x r ih =>
      intro acc
      rw [List.foldl_cons]
      have h1 := ih (ddF acc x)
      have h2 : (ddF acc x).length ≤ acc.length + 1 := by
        unfold ddF
        split
        · omega
        · simp
      simp only [List.length_cons]
      omega
  have := key X []
  simpa [dd] using this
def RiseP (X : List Pr) : Prop := (X.map (·.1)).Pairwise (· < ·)
instance (X : List Pr) : Decidable (RiseP X) := inferInstanceAs (Decidable ((X.map (·.1)).Pairwise (· < ·)))
theorem rises_things (ts : List Thing) : Rises ts ↔ RiseP (things ts) := by
  unfold Rises RiseP
  rw [keysOf_things]
theorem dd_run : ∀ (X acc : List Pr), RiseP (acc ++ X) → X.foldl ddF acc = acc ++ X
  | [], acc, _ => by simp
  | x :: r, acc, h => by
    have hne : ¬ acc.getLast? = some x := by
      intro e
      have hm := List.mem_of_getLast? e
      unfold RiseP at h
      rw [List.map_append, List.pairwise_append] at h
      have := h.2.2 x.1 (List.mem_map.mpr ⟨x, hm, rfl⟩) x.1 (by simp)
      omega
    rw [List.foldl_cons]
    have e : ddF acc x = acc ++ [x] := if_neg hne
    rw [e, dd_run r (acc ++ [x]) (by simpa using h)]
    simp
theorem dd_rise {X : List Pr} (h : RiseP X) : dd X = X := by
  have := dd_run X [] (by simpa using h)
  simpa [dd] using this
theorem dd_twice {L R : List Pr} {x : Pr} (h : RiseP (L ++ x :: R)) : dd (L ++ x :: x :: R) = L ++ x :: R := by
  have e : L ++ x :: x :: R = (L ++ [x]) ++ (x :: R) := by simp
  have h1 : RiseP (L ++ [x]) := by
    unfold RiseP at h ⊢
    have e2 : (L ++ x :: R).map (·.1) = (L ++ [x]).map (·.1) ++ R.map (·.1) := by simp
    rw [e2] at h
    exact (List.pairwise_append.mp h).1
  unfold dd
  rw [e, List.foldl_append, dd_run (L ++ [x]) [] (by simpa using h1), List.foldl_cons]
  have e3 : ddF ([] ++ (L ++ [x])) x = L ++ [x] := by
    unfold ddF
    rw [if_pos (by simp)]
    rfl
  rw [e3, dd_run R (L ++ [x]) (by simpa using h)]
  simp
theorem atI_last {α : Type} {xs : List α} (h : xs ≠ []) : atI xs (-1) = xs.getLast? := by
  have hl : 0 < xs.length := List.length_pos_iff.mpr h
  unfold atI ixN
  rw [if_neg (by decide), if_pos (by omega), List.getLast?_eq_getElem?]
  show xs[(-1 + (xs.length : Int)).toNat]? = _
  congr 1
  omega
theorem rows_law (ts : List Thing) (hl : ts.length < 16777216) : m__law_rows [.list (ts.map encD)] = some ((dd (things ts)).map encP) := by
  have loop := for_pre (bs := bs1 2) (F := l__law_rows_1) encD (fun pre ρ => ∃ s2, ρ = [.sh (.list (ts.map encD)), .ow ((dd (things pre)).map encP), s2]) ts ?_ [.sh (.list (ts.map encD)), .ow [], .no] ⟨_, rfl⟩
  · obtain ⟨ρ', hf, s2, rfl⟩ := loop
    refine runL_of rfl ?_
    unfold b__law_rows
    refine sq_nx (ρ' := [.sh (.list (ts.map encD)), .ow [], .no]) (by walk_at "pu") ?_
    exact sq_nx ((for_eq (items := ts.map encD) (by walk_at "pu")).trans hf) rfl
  · rintro pre t post ρ e ⟨s2, rfl⟩
    have hlen : (dd (things pre)).length < 16777216 := by
      have h1 := dd_length (things pre)
      have h2 : (things pre).length ≤ pre.length := List.length_filterMap_le _ _
      have h3 : pre.length < ts.length := by rw [e]; simp
      omega
    have dEqX : dEq (.list ((dd (things pre)).map encP)) (.list []) = some (.bool (decide (dd (things pre) = []))) := dEq_PL (dd (things pre)) []
    cases t with
    | none =>
      refine ⟨_, [.sh (.list (ts.map encD)), .ow ((dd (things pre)).map encP), .sh (encD none)], rfl, ?_, .sh (encD none), by rw [things_app]; simp [things]⟩
      clear e dEqX
      unfold l__law_rows_1
      walk_at "pu"
    | some x =>
      have hn : ¬ some x = none := by simp
      have hd : dd (things (pre ++ [some x])) = ddF (dd (things pre)) x := by
        rw [things_app]
        exact dd_snoc (things pre) x
      generalize hA : dd (things pre) = A at *
      by_cases h0 : A = []
      · refine ⟨_, [.sh (.list (ts.map encD)), .ow (A.map encP ++ [encD (some x)]), .sh (encD (some x))], rfl, ?_, .sh (encD (some x)), ?_⟩
        · rw [decide_eq_true h0] at dEqX
          clear e hd hA h0
          unfold l__law_rows_1
          walk_at "pu"
        · rw [hd]
          unfold ddF
          rw [if_neg (by rw [h0]; simp), List.map_append]
          rfl
      · have hlast : atI (A.map encP) (-1) = (A.getLast?).map encP := by
          rw [atI_last (by simpa using h0), List.getLast?_map]
        obtain ⟨y, hy⟩ : ∃ y, A.getLast? = some y := by
          cases h : A.getLast? with
          | none => exact absurd (List.getLast?_eq_none_iff.mp h) h0
          | some y => exact ⟨y, rfl⟩
        rw [hy, Option.map_some] at hlast
        rw [decide_eq_false h0] at dEqX
        have hne : dNe (encP y) (encD (some x)) = some (.bool (!decide (some y = some x))) := dNe_T (some y) (some x)
        by_cases hx : some y = some x
        · refine ⟨_, [.sh (.list (ts.map encD)), .ow (A.map encP), .sh (encD (some x))], rfl, ?_, .sh (encD (some x)), ?_⟩
          · rw [decide_eq_true hx] at hne
            clear e hd hA h0 hx hy
            unfold l__law_rows_1
            walk_at "pu"
          · rw [hd]
            unfold ddF
            rw [if_pos (hy.trans hx)]
        · refine ⟨_, [.sh (.list (ts.map encD)), .ow (A.map encP ++ [encD (some x)]), .sh (encD (some x))], rfl, ?_, .sh (encD (some x)), ?_⟩
          · rw [decide_eq_false hx] at hne
            clear e hd hA h0 hx hy
            unfold l__law_rows_1
            walk_at "pu"
          · rw [hd]
            unfold ddF
            rw [if_neg (fun z => hx (hy.symm.trans z)), List.map_append]
            rfl
theorem adj_all (X : List Pr) : (List.range (X.length - 1)).all (fun i => decide ((X.getD i (0, 0)).1 < (X.getD (i + 1) (0, 0)).1)) = decide (RiseP X) := by
  rw [Bool.eq_iff_iff, List.all_eq_true, decide_eq_true_eq]
  unfold RiseP
  rw [List.pairwise_iff_getElem]
  constructor
  · intro h i j hi hj hij
    simp only [List.length_map] at hi hj
    have key : ∀ d (hd : i + d + 1 < X.length), X[i].1 < (X[i + d + 1]).1 := by
      intro d
      induction d with
      | zero =>
        intro hd
        have := h i (List.mem_range.mpr (by omega))
        simpa [List.getD, hi, show i + 1 < X.length by omega] using this
      | succ d ih =>
        intro hd
        have h1 := ih (by omega)
        have := h (i + d + 1) (List.mem_range.mpr (by omega))
        have h2 : X[i + d + 1].1 < (X[i + d + 1 + 1]).1 := by simpa [List.getD, show i + d + 1 < X.length by omega, show i + d + 1 + 1 < X.length by omega] using this
        exact Int.lt_trans h1 h2
    have := key (j - i - 1) (by omega)
    have e : i + (j - i - 1) + 1 = j := by omega
    simp only [e] at this
    simpa using this
  · intro h i hi
    have hi' := List.mem_range.mp hi
    have := h i (i + 1) (by simp; omega) (by simp; omega) (by omega)
    simpa [List.getD, show i < X.length by omega, show i + 1 < X.length by omega] using this
theorem at_X (X : List Pr) {i : Nat} (h : i < X.length) : atI (X.map encP) (i : Int) = some (.tuple [.int (X.getD i (0, 0)).1, .int (X.getD i (0, 0)).2]) := by
  rw [atI_ofNat]
  simp [h, encP, List.getD]
theorem sound_law (ts : List Thing) (hl : ts.length ≤ 1000) : m__law_sound [.list (ts.map encD)] = some (.bool (decide (RiseP (dd (things ts))) && decide ((things ts).length ≤ (dd (things ts)).length + 1))) := by
  have hrows := rows_law ts (by omega)
  have hX : (things ts).length ≤ ts.length := List.length_filterMap_le _ _
  have hYl := dd_length (things ts)
  have hcomp : ∀ s2 : Sl, (pComp (pItL (pVar 0)) (bd1 0) (pTest (pOp dNe (pVar 0) (pTup pNil))) (pVar 0) 1 []) [some (.list (ts.map encD)), some (.list ((dd (things ts)).map encP)), s2.view] = some ((things ts).map encP) := fun s2 => by
    rw [things_comp ts (by omega) (by walk_at "pu"), filter_things]
  generalize things ts = X at *
  generalize dd X = Y at *
  have hg : gRange2 [.int 1, .int Y.length] = some (rangeD 1 (Y.length - 1)) := by
    rw [gRange2_int _ _ ⟨by decide, by decide, by omega, by omega⟩]
    have e : ((Y.length : Int) - 1).toNat = Y.length - 1 := by omega
    rw [e]
  have st1 : (pSet 1 (vS (pOfL (pCallL m__law_rows (pCons (pVar 0) pNil))))) (startP 3 [.list (ts.map encD)]) = some (.nx [.sh (.list (ts.map encD)), .sh (.list (Y.map encP)), .no]) := by
    clear hcomp
    walk_at "pu"
  have hst : (pCallL gRange2 (pCons (pCon (.int 1)) (pCons (pCall gLen (pCons (pVar 1) pNil)) pNil))) (masked [.sh (.list (ts.map encD)), .sh (.list (Y.map encP)), .no]) = some (rangeD 1 (Y.length - 1)) := by
    clear hcomp st1
    walk_at "pu"
  have loop := for_range_find (lo := 1) (bs := bs1 2) (F := l__law_sound_1) (fun i => decide ((Y.getD i (0, 0)).1 < (Y.getD (i + 1) (0, 0)).1)) (fun ρ => ∃ s, ρ = [.sh (.list (ts.map encD)), .sh (.list (Y.map encP)), s]) (.bool false) (Y.length - 1) ?_ [.sh (.list (ts.map encD)), .sh (.list (Y.map encP)), .no] ⟨_, rfl⟩
  · rw [adj_all] at loop
    rcases loop with ⟨h1, ρ', h2, s, rfl⟩ | ⟨h1, h2⟩
    · rw [h1, Bool.true_and]
      have fin : (pRet (pOp dLe (pCall gLen (pCons (pOfL (pComp (pItL (pVar 0)) (bd1 0) (pTest (pOp dNe (pVar 0) (pTup pNil))) (pVar 0) 1 [])) pNil)) (pOp dAdd (pCall gLen (pCons (pVar 1) pNil)) (pCon (.int 1))))) [.sh (.list (ts.map encD)), .sh (.list (Y.map encP)), s] = some (.rt (.bool (decide (X.length ≤ Y.length + 1)))) := by
        have hc := hcomp s
        have e3 : ((X.length : Int) ≤ (Y.length : Int) + 1) ↔ X.length ≤ Y.length + 1 := by omega
        have e4 : decide (X.length ≤ Y.length + 1) = decide ((X.length : Int) ≤ (Y.length : Int) + 1) := (decide_eq_decide.mpr e3).symm
        rw [e4]
        clear e4 e3
        clear hcomp st1 hst h2 h1 hrows hg hX hYl hl
        generalize (pComp (pItL (pVar 0)) (bd1 0) (pTest (pOp dNe (pVar 0) (pTup pNil))) (pVar 0) 1 []) = cf at *
        walk_at "pu"
      exact runF_of (o := .rt (.bool (decide (X.length ≤ Y.length + 1)))) rfl (sq_nx st1 (sq_nx ((for_eq hst).trans h2) fin)) rfl
    · rw [h1, Bool.false_and]
      exact runF_of (o := .rt (.bool false)) rfl (sq_nx st1 (sq_rt ((for_eq hst).trans h2))) rfl
  · rintro i ρ hi ⟨s, rfl⟩
    have h1 := at_X Y (i := i) (by omega)
    have h2 := at_X Y (i := i + 1) (by omega)
    have e1 : (1 : Int) + (i : Int) = ((i + 1 : Nat) : Int) := by omega
    have e2 : ((i + 1 : Nat) : Int) - 1 = (i : Int) := by omega
    refine ⟨_, rfl, fun ho => ⟨[.sh (.list (ts.map encD)), .sh (.list (Y.map encP)), .sh (.int (1 + (i : Int)))], ?_, _, rfl⟩, fun ho => ?_⟩
    · have ho' : ¬ (Y.getD (i + 1) (0, 0)).1 ≤ (Y.getD i (0, 0)).1 := by have := of_decide_eq_true ho; omega
      clear ho hi hg hcomp st1 hst hrows
      rw [e1]
      unfold l__law_sound_1
      walk_at "pu"
    · have ho' : (Y.getD (i + 1) (0, 0)).1 ≤ (Y.getD i (0, 0)).1 := by have := of_decide_eq_false ho; omega
      clear ho hi hg hcomp st1 hst hrows
      rw [e1]
      unfold l__law_sound_1
      walk_at "pu"
end LL
set_option maxHeartbeats 4000000
namespace LL
open PySem L2
structure EncOk {α : Type} [DecidableEq α] (e : α → D) (n : Nat) : Prop where
  lay : ∀ a, (e a).canLay0 = true
  dep : ∀ a, (e a).depth ≤ n
  eqv : ∀ a b, PyData.eqv (e a) (e b) = decide (a = b)
section
variable {α β : Type} [DecidableEq α] [DecidableEq β] {e : α → D} {f : β → D} {n m : Nat}
theorem EncOk.shaped (h : EncOk e n) (hn : n ≤ 64) (a : α) : SeqAt.shaped (e a) = true := by
  unfold SeqAt.shaped
  rw [h.lay a, Bool.true_and]
  exact decide_eq_true (Nat.le_trans (h.dep a) hn)
theorem EncOk.dNe (h : EncOk e n) (hn : n ≤ 64) (a b : α) : L2.dNe (e a) (e b) = some (.bool (!decide (a = b))) := by
  unfold L2.dNe
  rw [if_pos ⟨h.shaped hn a, h.shaped hn b⟩, h.eqv]
theorem EncOk.all (h : EncOk e n) : ∀ xs : List α, PyData.canLayAll0 (xs.map e) = true ∧ PyData.depthAll (xs.map e) ≤ n
  | [] => by simp [PyData.canLayAll0, PyData.depthAll]
  | x :: r => by
    have h2 := EncOk.all h r
    simp only [List.map_cons, PyData.canLayAll0, PyData.depthAll, h.lay x, h2.1, Bool.and_self, true_and]
    have := h.dep x
    have := h2.2
    omega
theorem EncOk.eqvAll (h : EncOk e n) : ∀ xs ys : List α, PyData.eqvAll (xs.map e) (ys.map e) = decide (xs = ys)
  | [], [] => by simp [PyData.eqvAll]
  | [], _ :: _ => by simp [PyData.eqvAll]
  | _ :: _, [] => by simp [PyData.eqvAll]
  | x :: r, y :: q => by
    simp only [List.map_cons, PyData.eqvAll, h.eqv, EncOk.eqvAll h r q]
    by_cases h1 : x = y <;> by_cases h2 : r = q <;> simp [h1, h2]
theorem EncOk.list (h : EncOk e n) : EncOk (fun xs : List α => PyData.list (xs.map e)) (n + 1) :=
  ⟨fun xs => by simp only [PyData.canLay0]; exact (h.all xs).1, fun xs => by simp only [PyData.depth]; have := (h.all xs).2; omega, fun xs ys => by simp only [PyData.eqv]; exact h.eqvAll xs ys⟩
end
theorem enc_int : EncOk PyData.int 0 := ⟨fun a => rfl, fun a => by simp [PyData.depth], fun a b => by simp [PyData.eqv, Bool.beq_eq_decide_eq]⟩
def natD (n : Nat) : D := .int (n : Int)
theorem enc_T : EncOk encD 1 := ⟨fun t => (canLay_T t).1, fun t => (canLay_T t).2, eqv_T⟩
def encM (q : Nat × Nat) : D := .tuple [.int (q.1 : Nat), .int (q.2 : Nat)]
theorem range_pos : ∀ (ts : List Thing) (k : Nat), ((List.range' k ts.length).filter fun i => full' (ts.getD (i - k) none)) = (posT k ts).map (·.1)
  | [], _ => rfl
  | t :: r, k => by
    rw [List.length_cons, List.range'_succ, List.filter_cons]
    have ih := range_pos r (k + 1)
    have e : (List.range' (k + 1) r.length).filter (fun i => full' ((t :: r).getD (i - k) none)) = (List.range' (k + 1) r.length).filter (fun i => full' (r.getD (i - (k + 1)) none)) := by
      apply List.filter_congr
      intro i hi
      have := List.mem_range'.mp hi
      obtain ⟨j, hj, rfl⟩ := this
      have e1 : k + 1 + 1 * j - k = j + 1 := by omega
      have e2 : k + 1 + 1 * j - (k + 1) = j := by omega
      rw [e1, e2]
      rfl
    rw [e, ih, Nat.sub_self]
    cases t with
    | none => rfl
    | some x => rfl
structure MvOk (s : List Thing) (t : Tr) : Prop where
  free : s[t.2.1]? = some none
  lt : t.2.1 < s.length
  here : s[t.1]? = some (some t.2.2)
  mid : dd (things (s.set t.2.1 (some t.2.2))) = things s
  few : (things (s.set t.2.1 (some t.2.2))).length = (things s).length + 1
  fin : things (mvW s t) = things s
theorem IsMv.ok {s : List Thing} {t : Tr} (m : IsMv s t) (h : RiseP (things s)) : MvOk s t := by
  obtain ⟨L, R, m⟩ := m
  have hs := posT_things s 0
  rw [m.eq, List.map_append, List.map_cons] at hs
  have h1 : things (s.set t.2.1 (some t.2.2)) = L.map (·.2) ++ t.2.2 :: t.2.2 :: R.map (·.2) := by
    rw [← posT_things _ 0, m.first]
    split <;> simp
  have hr : RiseP (L.map (·.2) ++ t.2.2 :: R.map (·.2)) := by rw [hs]; exact h
  refine ⟨m.free, m.lt, ?_, ?_, ?_, ?_⟩
  · have := (posT_get s 0 t.1 t.2.2).mpr (by rw [Nat.zero_add, m.eq]; simp)
    exact this
  · rw [h1, dd_twice hr, hs]
  · rw [h1, ← hs]
    simp
    omega
  · show things ((s.set t.2.1 (some t.2.2)).set t.1 none) = _
    rw [← posT_things _ 0, m.both, List.map_append, List.map_cons]
    exact hs
end LL
set_option maxHeartbeats 4000000
namespace LKa
open PySem L2
def b__law_key : PSt := (pSq (pSet 2 (vSL (pComp (pItL (pVar 0)) (bd1 0) (pTest (pOp dNe (pVar 0) (pTup pNil))) (pVar 0) 1 [])))
    (pSq (pSet 3 (vS (pOp dMod (pVar 1) (pOp dPow (pCon (.int 10)) (pCon (.int 58))))))
    (pSq (pIfS (pOrT (pTest (pOp dEq (pVar 2) (pOfL (pLst pNil)))) (pTest (pOp dEq (pOp dMod (pVar 1) (pCon (.int 5))) (pCon (.int 4)))))
      (pRet (pOp dIx (pOfL (pLst (pCons (pVar 3) (pCons (pUn dNeg (pVar 3)) pNil)))) (pOp dMod (pOp dDiv (pVar 1) (pCon (.int 5))) (pCon (.int 2))))) pNx)
    (pRet (pOp dAdd (pOp dIx (pOp dIx (pVar 2) (pOp dMod (pOp dDiv (pVar 1) (pCon (.int 5))) (pCall gLen (pCons (pVar 2) pNil)))) (pCon (.int 0))) (pOp dIx (pOfL (pLst (pCons (pUn dNeg (pCon (.int 1))) (pCons (pCon (.int 0)) (pCons (pCon (.int 1)) (pCons (pCon (.int 2)) pNil)))))) (pOp dMod (pOp dDiv (pVar 1) (pCon (.int 500))) (pCon (.int 4)))))))))
def m__law_key : List D → Option D := runF 2 4 b__law_key
end LKa
namespace LKb
open PySem L2
def b__law_key : PSt := (pSq (pSet 3 (vS (pOp dMod (pVar 1) (pOp dPow (pCon (.int 10)) (pCon (.int 50))))))
    (pSq (pIfS (pTest (pOp dEq (pVar 0) (pOfL (pLst pNil))))
      (pRet (pVar 3)) pNx)
    (pSq (pSet 4 (vS (pOp dMod (pOp dIx (pOfL (pLst (pCons (pOp dDiv (pVar 1) (pCon (.int 7))) (pCons (pOp dDiv (pCall gLen (pCons (pVar 0) pNil)) (pCon (.int 2))) pNil)))) (pCall gInt (pCons (pVar 2) pNil))) (pOp dAdd (pCall gLen (pCons (pVar 0) pNil)) (pCon (.int 1))))))
    (pSq (pSet 5 (vS (pOp dIx (pOfL (pLst (pCons (pCon (.int 1000)) (pCons (pOp dPow (pCon (.int 10)) (pCon (.int 48))) pNil)))) (pCall gInt (pCons (pOr (pVar 2) (pOp dEq (pOp dMod (pOp dDiv (pVar 1) (pCon (.int 7))) (pCon (.int 2))) (pCon (.int 1)))) pNil)))))
    (pSq (pIfS (pTest (pOp dEq (pVar 4) (pCon (.int 0))))
      (pRet (pOp dSub (pOp dSub (pOp dIx (pVar 0) (pCon (.int 0))) (pCon (.int 1))) (pOp dMod (pVar 3) (pVar 5)))) pNx)
    (pSq (pIfS (pTest (pOp dEq (pVar 4) (pCall gLen (pCons (pVar 0) pNil))))
      (pRet (pOp dAdd (pOp dAdd (pOp dIx (pVar 0) (pUn dNeg (pCon (.int 1)))) (pCon (.int 1))) (pOp dMod (pVar 3) (pVar 5)))) pNx)
    (pRet (pOp dAdd (pOp dAdd (pOp dIx (pVar 0) (pOp dSub (pVar 4) (pCon (.int 1)))) (pCon (.int 1))) (pOp dMod (pVar 3) (pCall gMax (pCons (pCon (.int 1)) (pCons (pOp dSub (pOp dSub (pOp dIx (pVar 0) (pVar 4)) (pOp dIx (pVar 0) (pOp dSub (pVar 4) (pCon (.int 1))))) (pCon (.int 1))) pNil))))))))))))
def m__law_key : List D → Option D := runF 3 6 b__law_key
end LKb
namespace LL
open PySem L2
def l__law_stretch_2 : PSt := (pSq (pSet 5 (vS (pOp dAdd (pVar 5) (pCon (.int 1)))))
      (pSq (pSet 6 (vS (pOp dMul (pVar 6) (pCon (.int 2)))))
      (pSet 7 (vS (pOp dMul (pOp dDiv (pVar 3) (pVar 6)) (pVar 6))))))
def l__law_stretch_1 : PSt := (pIfS (pAndT (pTest (pOp dNe (pOp dIx (pVar 1) (pVar 4)) (pTup pNil))) (pTest (pOp dLt (pOp dIx (pOp dIx (pVar 1) (pVar 4)) (pCon (.int 0))) (pVar 2))))
        (pSet 3 (vS (pVar 4))) pNx)
def b__law_stretch : PSt := (pSq (pSet 3 (vS (pCon (.int 0))))
    (pSq (pFor (pCallL gRange1 (pCons (pCall gLen (pCons (pVar 1) pNil)) pNil)) (bs1 4) l__law_stretch_1)
    (pSq (pSet 5 (vS (pCon (.int 0))))
    (pSq (pSet 6 (vS (pOp dIx (pVar 0) (pCon (.int 1)))))
    (pSq (pSet 7 (vS (pOp dMul (pOp dDiv (pVar 3) (pVar 6)) (pVar 6))))
    (pSq (whileP (pTest (pOp dGe (pCall m__law_held (pCons (pVar 1) (pCons (pVar 7) (pCons (pOp dAdd (pVar 7) (pVar 6)) pNil)))) (pOp dMul (pCall m__law_two (pCons (pVar 5) pNil)) (pOp dSub (pOp dIx (pVar 0) (pCon (.int 1))) (pOp dMul (pVar 5) (pOp dIx (pVar 0) (pCon (.int 2)))))))) l__law_stretch_2 1000000)
    (pRet (pTup (pCons (pVar 5) (pCons (pVar 7) (pCons (pVar 6) pNil)))))))))))
def m__law_stretch : List D → Option D := runF 3 8 b__law_stretch
def cnt (ts : List Thing) (a b : Nat) : Nat := (things ((ts.drop a).take (b - a))).length
theorem cut_nat (ts : List Thing) (a b : Nat) : cutD (ts.map encD) (some (a : Int)) (some (b : Int)) = ((ts.drop a).take (b - a)).map encD := by
  unfold cutD
  rw [HT.sIx_nat, HT.sIx_nat, List.length_map, ← List.map_drop, ← List.map_take]
  congr 1
  apply List.ext_getElem?
  intro i
  simp only [List.getElem?_take, List.getElem?_drop]
  by_cases h1 : a ≤ ts.length
  · by_cases h2 : b ≤ ts.length
    · rw [Nat.min_eq_left h1, Nat.min_eq_left h2]
    · rw [Nat.min_eq_left h1, Nat.min_eq_right (by omega)]
      by_cases h3 : i < ts.length - a
      · rw [if_pos h3, if_pos (by omega)]
      · rw [if_neg h3]
        split
        · rw [List.getElem?_eq_none (by omega)]
        · rfl
  · rw [Nat.min_eq_right (by omega : ts.length ≤ a)]
    rw [if_neg (by omega)]
    split
    · rw [List.getElem?_eq_none (by omega)]
    · rfl
theorem held_law (ts : List Thing) (hl : ts.length < 16777216) (a b : Nat) : m__law_held [.list (ts.map encD), .int (a : Int), .int (b : Int)] = some (.int (cnt ts a b : Int)) := by
  have hc := cut_nat ts a b
  have hn : ((ts.drop a).take (b - a)).length < 16777216 := by rw [List.length_take, List.length_drop]; omega
  have hn2 : (things ((ts.drop a).take (b - a))).length ≤ ((ts.drop a).take (b - a)).length := List.length_filterMap_le _ _
  have h2 := things_comp ((ts.drop a).take (b - a)) hn (fi := pItL (pOfL (pSl (pVar 0) (pPart (pVar 1)) (pPart (pVar 2))))) (ρ := [some (.list (ts.map encD)), some (.int (a : Int)), some (.int (b : Int))]) (by clear hn hn2; walk_at "pu")
  rw [filter_things] at h2
  unfold cnt
  generalize hX : things ((ts.drop a).take (b - a)) = X at *
  refine runF_of (o := .rt (.int _)) rfl ?_ rfl
  unfold b__law_held
  generalize pComp (pItL (pOfL (pSl (pVar 0) (pPart (pVar 1)) (pPart (pVar 2))))) (bd1 0) (pTest (pOp dNe (pVar 0) (pTup pNil))) (pVar 0) 1 [] = PC at *
  have hx : X.length < 16777216 := by omega
  clear hX hc hn2 hn
  walk_at "pu"
theorem small_ex (c : Int) : ∃ t w st, m__law_small [.int c] = some (.tuple [.int t, .int w, .int st]) ∧ Bd t w st ∧ tw t * w ≤ 128 := by
  obtain ⟨n, hn, _⟩ := spread_ex c
  have m8 := m_pos n (b := 8) (by decide)
  obtain ⟨v, hv, ev⟩ := at_mem ([.int 0, .int 1, .int 1, .int 2, .int 2, .int 2, .int 3, .int 4] : List D) (i := n % 8) m8.1 m8.2
  obtain ⟨t, rfl, t0, t4⟩ : ∃ t : Int, v = .int t ∧ 0 ≤ t ∧ t ≤ 4 := by
    simp only [List.mem_cons, List.mem_nil_iff, or_false] at hv
    rcases hv with e | e | e | e | e | e | e | e <;> exact ⟨_, e, by decide, by decide⟩
  obtain ⟨x, ex, x1, x9⟩ : ∃ x : Int, atI ([.int 9, .int 9, .int 7, .int 3, .int 3] : List D) t = some (.int x) ∧ 3 ≤ x ∧ tw t * ((9 / (t + 2)) * (t + 2) + x - 1) ≤ 128 ∧ (9 / (t + 2)) * (t + 2) + x - 1 ≤ 20 := by
    rcases tw_of t0 t4 with ⟨rfl, e⟩ | ⟨rfl, e⟩ | ⟨rfl, e⟩ | ⟨rfl, e⟩ | ⟨rfl, e⟩ <;> rw [e] <;> exact ⟨_, rfl, by decide, by decide⟩
  have d9 : 0 < 9 / (t + 2) ∧ 9 / (t + 2) < 1073741824 := by
    have : t = 0 ∨ t = 1 ∨ t = 2 ∨ t = 3 ∨ t = 4 := by omega
    rcases this with rfl | rfl | rfl | rfl | rfl <;> decide
  have q0 := m_pos (n / 8) d9.1
  have m2 := m_pos (n / 160) (b := 2) (by decide)
  obtain ⟨v, hv, ev2⟩ := at_mem ([.int 3, .int x] : List D) (i := n / 160 % 2) m2.1 m2.2
  obtain ⟨y, rfl, y1, y2⟩ : ∃ y : Int, v = .int y ∧ 3 ≤ y ∧ y ≤ x := by
    simp only [List.mem_cons, List.mem_nil_iff, or_false] at hv
    rcases hv with e | e
    · exact ⟨_, e, by omega, by omega⟩
    · exact ⟨_, e, by omega, by omega⟩
  have y0 : 0 < y := by omega
  have q1 := m_pos (n / 320) (b := y) y0
  have yx : y < 1073741824 := by
    have := x9.2
    have h0 : 0 ≤ (9 / (t + 2)) * (t + 2) := Int.mul_nonneg (by omega) (by omega)
    omega
  have s4 : 0 < t + 2 ∧ t + 2 < 1073741824 := ⟨by omega, by omega⟩
  have h1 : (1 + n / 8 % (9 / (t + 2))) ≤ 9 / (t + 2) := by omega
  have h2 : (1 + n / 8 % (9 / (t + 2))) * (t + 2) ≤ (9 / (t + 2)) * (t + 2) := Int.mul_le_mul_of_nonneg_right h1 (by omega)
  have s3 : -18446744073709551616 < 1 + n / 8 % (9 / (t + 2)) ∧ 1 + n / 8 % (9 / (t + 2)) < 18446744073709551616 := ⟨by omega, by omega⟩
  refine ⟨t, (1 + n / 8 % (9 / (t + 2))) * (t + 2) + n / 320 % y, 1 + n / 8 % (9 / (t + 2)), runF_of (o := .rt (.tuple _)) rfl ?_ rfl, ⟨t0, t4, by omega, by omega, by omega⟩, ?_⟩
  · clear hv h1 h2 q1 q0 x9 x1
    unfold b__law_small
    walk_at "pu"
  · refine Int.le_trans (Int.mul_le_mul_of_nonneg_left (a := (1 + n / 8 % (9 / (t + 2))) * (t + 2) + n / 320 % y) (b := (9 / (t + 2)) * (t + 2) + x - 1) (by omega) ?_) x9.1
    rcases tw_of t0 t4 with e | e | e | e | e <;> omega
end LL
namespace LKa
open PySem L2 LL
end LKa
namespace LKb
open PySem L2 LL
theorem key_ex (ks : List Int) (hl : ks.length < 16777216) (c : Int) (crowd : Bool) : ∃ k, m__law_key [.list (ks.map .int), .int c, .bool crowd] = some (.int k) := by
  have fin : ∀ k : Int, b__law_key [.sh (.list (ks.map .int)), .sh (.int c), .sh (.bool crowd), .no, .no, .no] = some (.rt (.int k)) → m__law_key [.list (ks.map .int), .int c, .bool crowd] = some (.int k) := fun k h => runF_of (o := .rt (.int k)) rfl h rfl
  have he : dEq (.list (ks.map .int)) (.list []) = some (.bool (decide (ks = []))) := dEq_ints_nil ks
  by_cases h0 : ks = []
  · rw [decide_eq_true h0] at he
    refine ⟨c % tenP 50, fin _ ?_⟩
    clear fin h0
    unfold b__law_key
    walk_at "pu"
  rw [decide_eq_false h0] at he
  have hn : 0 < ks.length := List.length_pos_iff.mpr h0
  have hn1 : (0 : Int) < (ks.length : Int) + 1 := by omega
  obtain ⟨v, hv, ev⟩ := at_mem ([.int (c / 7), .int ((ks.length : Int) / 2)] : List D) (i := if crowd then 1 else 0) (by split <;> decide) (by show _ < (2 : Int); split <;> decide)
  obtain ⟨a0, rfl⟩ : ∃ a0 : Int, v = .int a0 := by
    simp only [List.mem_cons, List.mem_nil_iff, or_false] at hv
    rcases hv with e | e <;> exact ⟨_, e⟩
  have ma := m_pos a0 hn1
  obtain ⟨v, hv2, ev2⟩ := at_mem ([.int 1000, .int (tenP 48)] : List D) (i := if (crowd || decide (c / 7 % 2 = 1)) then 1 else 0) (by split <;> decide) (by split <;> decide)
  obtain ⟨wide, rfl, hw⟩ : ∃ wide : Int, v = .int wide ∧ 0 < wide := by
    simp only [List.mem_cons, List.mem_nil_iff, or_false] at hv2
    rcases hv2 with e | e
    · exact ⟨_, e, by decide⟩
    · exact ⟨_, e, tenP_pos _⟩
  have dd := True.intro
  generalize hat : a0 % ((ks.length : Int) + 1) = at' at *
  have hsm : (ks.length : Int) < 1073741824 := by omega
  have st : ∀ r, pSq (pIfS (pTest (pOp dEq (pVar 4) (pCon (.int 0))))
      (pRet (pOp dSub (pOp dSub (pOp dIx (pVar 0) (pCon (.int 0))) (pCon (.int 1))) (pOp dMod (pVar 3) (pVar 5)))) pNx)
    (pSq (pIfS (pTest (pOp dEq (pVar 4) (pCall gLen (pCons (pVar 0) pNil))))
      (pRet (pOp dAdd (pOp dAdd (pOp dIx (pVar 0) (pUn dNeg (pCon (.int 1)))) (pCon (.int 1))) (pOp dMod (pVar 3) (pVar 5)))) pNx)
    (pRet (pOp dAdd (pOp dAdd (pOp dIx (pVar 0) (pOp dSub (pVar 4) (pCon (.int 1)))) (pCon (.int 1))) (pOp dMod (pVar 3) (pCall gMax (pCons (pCon (.int 1)) (pCons (pOp dSub (pOp dSub (pOp dIx (pVar 0) (pVar 4)) (pOp dIx (pVar 0) (pOp dSub (pVar 4) (pCon (.int 1))))) (pCon (.int 1))) pNil)))))))
    [.sh (.list (ks.map .int)), .sh (.int c), .sh (.bool crowd), .sh (.int (c % tenP 50)), .sh (.int at'), .sh (.int wide)] = r → b__law_key [.sh (.list (ks.map .int)), .sh (.int c), .sh (.bool crowd), .no, .no, .no] = r := by
    intro r hr
    unfold b__law_key
    refine sq_nx (ρ' := [.sh (.list (ks.map .int)), .sh (.int c), .sh (.bool crowd), .sh (.int (c % tenP 50)), .no, .no]) (by clear hr; walk_at "pu") ?_
    refine sq_nx (ρ' := [.sh (.list (ks.map .int)), .sh (.int c), .sh (.bool crowd), .sh (.int (c % tenP 50)), .no, .no]) (by clear hr; walk_at "pu") ?_
    refine sq_nx (ρ' := [.sh (.list (ks.map .int)), .sh (.int c), .sh (.bool crowd), .sh (.int (c % tenP 50)), .sh (.int at'), .no]) (by clear hr hv hv2 ma; walk_at "pu") ?_
    refine sq_nx (ρ' := [.sh (.list (ks.map .int)), .sh (.int c), .sh (.bool crowd), .sh (.int (c % tenP 50)), .sh (.int at'), .sh (.int wide)]) (by
      clear hr hv hv2 ma hat fin ev
      cases crowd with
      | false =>
        rw [Bool.false_or] at ev2
        walk_at "pu"
      | true =>
        have e2 : some (PyData.int (tenP 48)) = some (PyData.int wide) := ev2
        clear ev2
        walk_at "pu") hr
  obtain ⟨j, rfl⟩ : ∃ j : Nat, at' = (j : Int) := ⟨at'.toNat, by omega⟩
  clear ev ev2 hv hv2 hat he
  have gk : ∀ i : Nat, i < ks.length → ∃ q : Int, atI (ks.map PyData.int) (i : Int) = some (.int q) := by
    intro i hi
    refine ⟨ks[i], ?_⟩
    rw [atI_ofNat]
    simp [hi]
  by_cases hj0 : j = 0
  · subst hj0
    obtain ⟨q, hq⟩ := gk 0 hn
    refine ⟨q - 1 - c % tenP 50 % wide, fin _ (st _ ?_)⟩
    clear fin st gk ma
    rw [show ((0 : Nat) : Int) = 0 from rfl] at *
    walk_at "pu"
  by_cases hj1 : j = ks.length
  · obtain ⟨q, hq⟩ : ∃ q : Int, atI (ks.map PyData.int) (-1) = some (.int q) := by
      obtain ⟨q, hq⟩ := gk (ks.length - 1) (by omega)
      refine ⟨q, ?_⟩
      rw [atI_last (by simpa using h0), ← hq, atI_ofNat, List.getLast?_eq_getElem?, List.length_map]
    refine ⟨q + 1 + c % tenP 50 % wide, fin _ (st _ ?_)⟩
    subst hj1
    have hz : ¬ (ks.length : Int) = 0 := by omega
    clear fin st gk ma hj0 h0
    walk_at "pu"
  · obtain ⟨q, hq⟩ := gk j (by omega)
    obtain ⟨q', hq'⟩ := gk (j - 1) (by omega)
    have e1 : ((j - 1 : Nat) : Int) = (j : Int) - 1 := by omega
    rw [e1] at hq'
    have hz : ¬ (j : Int) = 0 := by omega
    have hz2 : ¬ (j : Int) = (ks.length : Int) := by omega
    have hm : 0 < max 1 (q - q' - 1) := by omega
    refine ⟨q' + 1 + c % tenP 50 % (max 1 (q - q' - 1)), fin _ (st _ ?_)⟩
    clear fin st gk ma hj0 hj1 h0 e1
    walk_at "pu"
end LKb
namespace LL
open PySem L2
def lessAt (ts : List Thing) (k : Int) (i : Nat) : Bool := match (ts.getD i none) with
  | none => false
  | some x => decide (x.1 < k)
def seatN (ts : List Thing) (k : Int) : Nat → Nat
  | 0 => 0
  | i + 1 => if lessAt ts k i = true then i else seatN ts k i
theorem seatN_le (ts : List Thing) (k : Int) : ∀ n, seatN ts k n ≤ n - 1
  | 0 => Nat.le_refl _
  | n + 1 => by
      show (if lessAt ts k n = true then n else seatN ts k n) ≤ n
      split
      · exact Nat.le_refl _
      · have := seatN_le ts k n; omega
theorem at_ts (ts : List Thing) {i : Nat} (h : i < ts.length) : atI (ts.map encD) (i : Int) = some (encD (ts.getD i none)) := by
  rw [atI_ofNat]
  simp [h, List.getD]
def beg (w s h : Nat) : Nat := s / (2 ^ h * w) * (2 ^ h * w)
def roomy (ts : List Thing) (w st s h : Nat) : Prop := (cnt ts (beg w s h) (beg w s h + 2 ^ h * w) : Int) < 2 ^ h * ((w : Int) - h * st)
theorem stretch_seat (ts : List Thing) (hl : ts.length < 16777216) (B : D) (k : Int) : ∃ s4, pFor (pCallL gRange1 (pCons (pCall gLen (pCons (pVar 1) pNil)) pNil)) (bs1 4) l__law_stretch_1 [.sh B, .sh (.list (ts.map encD)), .sh (.int k), .sh (.int 0), .no, .no, .no, .no] = some (.nx [.sh B, .sh (.list (ts.map encD)), .sh (.int k), .sh (.int (seatN ts k ts.length : Int)), s4, .no, .no, .no]) := by
  have loop := for_range_inv (bs := bs1 4) (F := l__law_stretch_1) (lo := 0) (fun i ρ => ∃ s4, ρ = [.sh B, .sh (.list (ts.map encD)), .sh (.int k), .sh (.int (seatN ts k i : Int)), s4, .no, .no, .no]) ts.length ?_ [.sh B, .sh (.list (ts.map encD)), .sh (.int k), .sh (.int 0), .no, .no, .no, .no] ⟨_, rfl⟩
  · obtain ⟨ρ', hf, s4, rfl⟩ := loop
    have hr := gRange1_int (ts.length : Int) ⟨by omega, by omega⟩
    rw [Int.toNat_natCast] at hr
    refine ⟨s4, (for_eq (items := rangeD 0 ts.length) ?_).trans hf⟩
    clear hf
    walk_at "pu"
  · rintro i ρ hi ⟨s4, rfl⟩
    rw [Int.zero_add]
    refine ⟨[.sh B, .sh (.list (ts.map encD)), .sh (.int k), .sh (.int (seatN ts k i : Int)), .sh (.int (i : Int)), .no, .no, .no], [.sh B, .sh (.list (ts.map encD)), .sh (.int k), .sh (.int (seatN ts k (i + 1) : Int)), .sh (.int (i : Int)), .no, .no, .no], rfl, ?_, .sh (.int (i : Int)), rfl⟩
    have ha := at_ts ts hi
    have hs : seatN ts k (i + 1) = if lessAt ts k i = true then i else seatN ts k i := rfl
    unfold lessAt at hs
    generalize ts.getD i none = t at *
    generalize seatN ts k i = s at *
    generalize seatN ts k (i + 1) = s' at *
    unfold l__law_stretch_1
    cases t with
    | none =>
      have hs' : s' = s := by simpa using hs
      subst hs'
      clear hs hi
      walk_at "pu"
    | some x =>
      have hn : ¬ some x = none := by simp
      have hx : encD (some x) = .tuple [.int x.1, .int x.2] := rfl
      have hne : dNe (.tuple [.int x.1, .int x.2]) (.tuple []) = some (.bool true) := by rfl
      rw [hx] at ha
      by_cases hk : x.1 < k
      · have hs' : s' = i := by simpa [hk] using hs
        subst hs'
        clear hs hi hx
        walk_at "pu"
      · have hs' : s' = s := by simpa [hk] using hs
        subst hs'
        clear hs hi hx
        walk_at "pu"
end LL
namespace LL
open PySem L2
theorem tw_nat (k : Nat) : tw (k : Int) = ((2 ^ k : Nat) : Int) := by
  unfold tw
  rw [Int.toNat_natCast]
  exact (Int.natCast_pow 2 k).symm
theorem pw_ok {k w : Nat} (hk : k ≤ 4) (w1 : 1 ≤ w) (w20 : w ≤ 20) : 1 ≤ 2 ^ k * w ∧ 2 ^ k * w ≤ 320 := by
  have : k = 0 ∨ k = 1 ∨ k = 2 ∨ k = 3 ∨ k = 4 := by omega
  rcases this with rfl | rfl | rfl | rfl | rfl <;> omega
instance (ts : List Thing) (w st s h : Nat) : Decidable (roomy ts w st s h) := Int.decLt _ _
theorem stretch_law (ts : List Thing) {t : Int} {w st hh : Nat} (w1 : 1 ≤ w) (w20 : w ≤ 20) (st20 : st ≤ 20) (h4 : hh ≤ 4) (hlen : ts.length = 2 ^ hh * w) (k : Int) (hroom : roomy ts w st (seatN ts k ts.length) hh) :
    ∃ h, h ≤ hh ∧ roomy ts w st (seatN ts k ts.length) h ∧ (∀ l, l < h → ¬ roomy ts w st (seatN ts k ts.length) l) ∧ m__law_stretch [.tuple [.int t, .int (w : Int), .int (st : Int)], .list (ts.map encD), .int k] = some (.tuple [.int (h : Int), .int (beg w (seatN ts k ts.length) h : Int), .int ((2 ^ h * w : Nat) : Int)]) := by
  have hl : ts.length < 16777216 := by have := pw_ok h4 w1 w20; omega
  obtain ⟨s4, hseat⟩ := stretch_seat ts hl (.tuple [.int t, .int (w : Int), .int (st : Int)]) k
  generalize seatN ts k ts.length = s at *
  have hcond : ∀ j, j ≤ hh → (pTest (pOp dGe (pCall m__law_held (pCons (pVar 1) (pCons (pVar 7) (pCons (pOp dAdd (pVar 7) (pVar 6)) pNil)))) (pOp dMul (pCall m__law_two (pCons (pVar 5) pNil)) (pOp dSub (pOp dIx (pVar 0) (pCon (.int 1))) (pOp dMul (pVar 5) (pOp dIx (pVar 0) (pCon (.int 2)))))))) (full [.sh (.tuple [.int t, .int (w : Int), .int (st : Int)]), .sh (.list (ts.map encD)), .sh (.int k), .sh (.int (s : Int)), s4, .sh (.int (j : Int)), .sh (.int ((2 ^ j * w : Nat) : Int)), .sh (.int (beg w s j : Int))]) = some (decide (¬ roomy ts w st s j)) := by
    intro j hle
    have hz := pw_ok (k := j) (by omega) w1 w20
    have hheld := held_law ts hl (beg w s j) (beg w s j + 2 ^ j * w)
    have htwo := two_eq (h := (j : Int)) (by omega) (by omega)
    have hT : tw (j : Int) = 2 ^ j := by rw [tw_nat]; exact Int.natCast_pow 2 j
    have hTs : -18446744073709551616 < tw (j : Int) ∧ tw (j : Int) < 18446744073709551616 := by
      rcases tw_of (h := (j : Int)) (by omega) (by omega) with e | e | e | e | e <;> omega
    have hjs : -18446744073709551616 < (j : Int) ∧ (j : Int) < 18446744073709551616 := by omega
    rw [Int.natCast_add] at hheld
    have e : decide (¬ roomy ts w st s j) = decide (tw (j : Int) * ((w : Int) - (j : Int) * (st : Int)) ≤ (cnt ts (beg w s j) (beg w s j + 2 ^ j * w) : Int)) :=
      decide_eq_decide.mpr (by unfold roomy; rw [hT]; exact Int.not_lt)
    rw [e]
    clear e
    generalize (cnt ts (beg w s j) (beg w s j + 2 ^ j * w) : Int) = C at *
    generalize beg w s j = P at *
    generalize 2 ^ j * w = Z at *
    generalize tw (j : Int) = T at *
    clear hle hT hz hseat
    walk_at "pu"
  have wh := while_idx (c := pTest (pOp dGe (pCall m__law_held (pCons (pVar 1) (pCons (pVar 7) (pCons (pOp dAdd (pVar 7) (pVar 6)) pNil)))) (pOp dMul (pCall m__law_two (pCons (pVar 5) pNil)) (pOp dSub (pOp dIx (pVar 0) (pCon (.int 1))) (pOp dMul (pVar 5) (pOp dIx (pVar 0) (pCon (.int 2)))))))) (F := l__law_stretch_2) hh
    (fun j ρ => ρ = [.sh (.tuple [.int t, .int (w : Int), .int (st : Int)]), .sh (.list (ts.map encD)), .sh (.int k), .sh (.int (s : Int)), s4, .sh (.int (j : Int)), .sh (.int ((2 ^ j * w : Nat) : Int)), .sh (.int (beg w s j : Int))] ∧ j ≤ hh ∧ ∀ l, l < j → ¬ roomy ts w st s l) ?_ 1000000 0
    [.sh (.tuple [.int t, .int (w : Int), .int (st : Int)]), .sh (.list (ts.map encD)), .sh (.int k), .sh (.int (s : Int)), s4, .sh (.int ((0 : Nat) : Int)), .sh (.int ((2 ^ 0 * w : Nat) : Int)), .sh (.int (beg w s 0 : Int))] ⟨rfl, Nat.zero_le _, fun l hl => absurd hl (Nat.not_lt_zero _)⟩ (Nat.zero_le _) (by omega)
  · obtain ⟨h, ρ', hw, ⟨rfl, hle, hno⟩, hend, _⟩ := wh
    refine ⟨h, hle, ?_, hno, ?_⟩
    · rw [hcond h hle] at hend
      exact Decidable.of_not_not (of_decide_eq_false (Option.some.inj hend))
    · refine runF_of (o := .rt (.tuple [.int (h : Int), .int (beg w s h : Int), .int ((2 ^ h * w : Nat) : Int)])) rfl ?_ rfl
      unfold b__law_stretch
      refine sq_nx (ρ' := [.sh (.tuple [.int t, .int (w : Int), .int (st : Int)]), .sh (.list (ts.map encD)), .sh (.int k), .sh (.int 0), .no, .no, .no, .no]) rfl ?_
      refine sq_nx hseat ?_
      refine sq_nx (ρ' := [.sh (.tuple [.int t, .int (w : Int), .int (st : Int)]), .sh (.list (ts.map encD)), .sh (.int k), .sh (.int (s : Int)), s4, .sh (.int ((0 : Nat) : Int)), .no, .no]) rfl ?_
      refine sq_nx (ρ' := [.sh (.tuple [.int t, .int (w : Int), .int (st : Int)]), .sh (.list (ts.map encD)), .sh (.int k), .sh (.int (s : Int)), s4, .sh (.int ((0 : Nat) : Int)), .sh (.int ((2 ^ 0 * w : Nat) : Int)), .no]) ?_ ?_
      · rw [show (2 ^ 0 * w : Nat) = w by omega]
        clear hend hw hseat hcond
        walk_at "pu"
      refine sq_nx (ρ' := [.sh (.tuple [.int t, .int (w : Int), .int (st : Int)]), .sh (.list (ts.map encD)), .sh (.int k), .sh (.int (s : Int)), s4, .sh (.int ((0 : Nat) : Int)), .sh (.int ((2 ^ 0 * w : Nat) : Int)), .sh (.int (beg w s 0 : Int))]) ?_ ?_
      · unfold beg
        rw [show (2 ^ 0 * w : Nat) = w by omega, Int.natCast_mul, Int.natCast_ediv]
        have a1 : (0 : Int) < (w : Int) ∧ (w : Int) < 1073741824 := by omega
        have a2 : -18446744073709551616 < (w : Int) ∧ (w : Int) < 18446744073709551616 := by omega
        clear hend hw hseat hcond
        walk_at "pu"
      refine sq_nx hw ?_
      rfl
  · rintro j ρ ⟨rfl, hle, hno⟩
    have hz := pw_ok (k := j) (by omega) w1 w20
    refine ⟨decide (¬ roomy ts w st s j), hcond j hle, ?_⟩
    · intro hb
      have hb' := of_decide_eq_true hb
      have hlt : j < hh := by
        rcases Nat.lt_or_ge j hh with h | h
        · exact h
        · have : j = hh := by omega
          subst this
          exact absurd hroom hb'
      refine ⟨hlt, [.sh (.tuple [.int t, .int (w : Int), .int (st : Int)]), .sh (.list (ts.map encD)), .sh (.int k), .sh (.int (s : Int)), s4, .sh (.int ((j + 1 : Nat) : Int)), .sh (.int ((2 ^ (j + 1) * w : Nat) : Int)), .sh (.int (beg w s (j + 1) : Int))], ?_, rfl, by omega, ?_⟩
      · unfold l__law_stretch_2 beg
        rw [show 2 ^ (j + 1) * w = 2 ^ j * w * 2 by rw [Nat.pow_succ]; rw [Nat.mul_assoc, Nat.mul_assoc, Nat.mul_comm 2 w]]
        generalize 2 ^ j * w = Z at *
        rw [Int.natCast_mul (s / (Z * 2)), Int.natCast_ediv, Int.natCast_mul Z 2, Int.natCast_add j 1]
        show _ = some (Out.nx [_, _, _, _, _, Sl.sh (.int ((j : Int) + 1)), Sl.sh (.int ((Z : Int) * 2)), Sl.sh (.int ((s : Int) / ((Z : Int) * 2) * ((Z : Int) * 2)))])
        have a1 : (0 : Int) < (Z : Int) * 2 ∧ (Z : Int) * 2 < 1073741824 := by omega
        have a2 : -18446744073709551616 < (Z : Int) * 2 ∧ (Z : Int) * 2 < 18446744073709551616 := by omega
        have a3 : -18446744073709551616 < (Z : Int) ∧ (Z : Int) < 18446744073709551616 := by omega
        clear hno hle hz hseat hcond hb hb' hroom
        walk_at "pu"
      · intro l hlj
        rcases Nat.lt_or_ge l j with h | h
        · exact hno l h
        · have : l = j := by omega
          subst this
          exact hb'
end LL
namespace LL
def tgt (n W i : Nat) : Nat := i * W / n
theorem tgt_spec {n : Nat} (hn : 0 < n) (W i : Nat) : tgt n W i * n ≤ i * W ∧ i * W < (tgt n W i + 1) * n := by
  unfold tgt
  refine ⟨Nat.div_mul_le_self _ _, ?_⟩
  rw [Nat.mul_comm (i * W / n + 1) n]
  exact Nat.lt_mul_div_succ _ hn
theorem tgt_le {n W j i : Nat} (hn : 0 < n) : j ≤ tgt n W i ↔ j * n ≤ i * W := Nat.le_div_iff_mul_le hn
theorem tgt_rise {n W i j : Nat} (hn : 0 < n) (h : n ≤ W) (hij : i < j) : tgt n W i < tgt n W j := by
  show tgt n W i + 1 ≤ tgt n W j
  rw [tgt_le hn, Nat.add_mul, Nat.one_mul]
  have h1 := (tgt_spec hn W i).1
  have h2 : (i + 1) * W ≤ j * W := Nat.mul_le_mul_right _ hij
  rw [Nat.add_mul, Nat.one_mul] at h2
  omega
theorem tgt_lt {n W i : Nat} (hi : i < n) (hW : 0 < W) : tgt n W i < W := by
  unfold tgt
  rw [Nat.div_lt_iff_lt_mul (by omega), Nat.mul_comm]
  exact Nat.mul_lt_mul_of_pos_left hi hW
def cl (p n a : Nat) : Nat := (a * n + p - 1) / p
end LL
namespace LL
open PySem L2
theorem spreads_comp (cs : List Int) (hl : cs.length < 16777216) {fi : PAs} {ρ : PEnv} (h : fi ρ = some (cs.map PyData.int)) : ∃ zs : List Int, pComp fi (bd1 0) pTrue (pCall m__law_spread (pCons (pVar 0) pNil)) 1 [] ρ = some (zs.map PyData.int) ∧ zs.length = cs.length ∧ ∀ z ∈ zs, 0 ≤ z := by
  refine ⟨cs.map fun c => (spread_ex c).choose, ?_, List.length_map _, ?_⟩
  · rw [comp_eq h (by simpa using hl), compP_mapT PyData.int (fun c => .int (spread_ex c).choose), List.map_map]
    · rfl
    · intro c _
      exact ⟨_, rfl, (spread_ex c).choose_spec.1⟩
  · intro z hz
    obtain ⟨c, _, rfl⟩ := List.mem_map.mp hz
    exact (spread_ex c).choose_spec.2
theorem cut_ints (ns : List Int) (lo hi : Option Int) : ∃ cs : List Int, cutD (ns.map PyData.int) lo hi = cs.map PyData.int ∧ cs.length ≤ ns.length := cutD_map PyData.int ns lo hi
end LL
namespace LL
open PySem L2
def tgD (n W : Nat) : List D := (List.range n).map fun i => .int (tgt n W i : Int)
theorem range_natD (n : Nat) (h : n < 16777216) : gRange1 [.int (n : Int)] = some ((List.range n).map fun i : Nat => .int (i : Int)) := by
  rw [gRange1_int _ ⟨by omega, by omega⟩]
  unfold rangeD
  rw [Int.toNat_natCast]
  congr 1
  apply List.map_congr_left
  intro i _
  show PyData.int (0 + (i : Int)) = .int (i : Int)
  rw [Int.zero_add]
def plD (ts : List Thing) (i : Nat) : D := .tuple [.int (i : Int), encD (ts.getD i none)]
theorem enum_ts (ts : List Thing) : enumD (ts.map encD) = (List.range ts.length).map (plD ts) := by
  unfold enumD
  apply List.ext_getElem?
  intro i
  rw [List.getElem?_map, List.getElem?_zipIdx, List.getElem?_map, List.getElem?_map]
  by_cases h : i < ts.length
  · rw [List.getElem?_range h]
    simp [h, plD]
  · rw [List.getElem?_eq_none (show ts.length ≤ i by omega), List.getElem?_eq_none (show (List.range ts.length).length ≤ i by simp; omega)]
    rfl
theorem for_places {bs : D → SEnv → Option SEnv} {F : PSt} (ts : List Thing) (R : Nat → SEnv → Prop) (H : ∀ i ρ, i < ts.length → R i ρ → ∃ ρ1 ρ2, bs (plD ts i) ρ = some ρ1 ∧ F ρ1 = some (.nx ρ2) ∧ R (i + 1) ρ2) (ρ : SEnv) (r : R 0 ρ) :
    ∃ ρ', forP bs F (enumD (ts.map encD)) ρ = some (.nx ρ') ∧ R ts.length ρ' := by
  rw [enum_ts]
  obtain ⟨ρ', h1, h2⟩ := for_pre (bs := bs) (F := F) (plD ts) (fun pre ρ => R pre.length ρ) (List.range ts.length) (by
    intro pre x post ρ e r
    have hx : x = pre.length := by
      have h := congrArg (fun l => l[pre.length]?) e
      simp only [List.getElem?_append_right (Nat.le_refl _), Nat.sub_self, List.getElem?_cons_zero] at h
      have hlt : pre.length < ts.length := by
        have := congrArg List.length e
        simp at this
        omega
      rw [List.getElem?_range hlt] at h
      exact (Option.some.inj h).symm
    have hlt : pre.length < ts.length := by
      have := congrArg List.length e
      simp at this
      omega
    subst hx
    obtain ⟨ρ1, ρ2, a, b, c⟩ := H pre.length ρ hlt r
    exact ⟨ρ1, ρ2, a, b, by rw [List.length_append]; exact c⟩) ρ r
  exact ⟨ρ', h1, by rw [List.length_range] at h2; exact h2⟩
theorem roomy_whole (ts : List Thing) {w st s hh : Nat} (hlen : ts.length = 2 ^ hh * w) (hs : s < ts.length) (h : ((keysOf ts).length : Int) < 2 ^ hh * ((w : Int) - hh * st)) : roomy ts w st s hh := by
  unfold roomy
  have hb : beg w s hh = 0 := by
    unfold beg
    rw [← hlen, Nat.div_eq_of_lt hs, Nat.zero_mul]
  rw [hb, ← hlen]
  unfold cnt
  rw [List.drop_zero, Nat.zero_add, Nat.sub_zero, List.take_of_length_le (Nat.le_refl _)]
  rw [keysOf_things, List.length_map] at h
  exact h
theorem cnt_pos : ∀ (s : List Thing) (k a b : Nat), (things ((s.drop a).take (b - a))).length = ((posT k s).filter fun p => decide (k + a ≤ p.1) && decide (p.1 < k + b)).length
  | [], k, a, b => by simp [posT, things]
  | t :: r, k, a, b => by
    have hge := posT_ge r (k + 1)
    by_cases hb : b = 0
    · subst hb
      have hge2 := posT_ge (t :: r) k
      rw [Nat.zero_sub, List.take_zero]
      have : ((posT k (t :: r)).filter fun p => decide (k + a ≤ p.1) && decide (p.1 < k + 0)) = [] := by
        rw [List.filter_eq_nil_iff]
        intro p hp
        have := hge2 p hp
        simp
        omega
      rw [this]
      rfl
    obtain ⟨b', rfl⟩ : ∃ b', b = b' + 1 := ⟨b - 1, by omega⟩
    cases a with
    | zero =>
      rw [List.drop_zero, Nat.sub_zero, List.take_succ_cons]
      have ih := cnt_pos r (k + 1) 0 b'
      rw [List.drop_zero, Nat.sub_zero] at ih
      have e : ((posT (k + 1) r).filter fun p => decide (k + 1 + 0 ≤ p.1) && decide (p.1 < k + 1 + b')) = ((posT (k + 1) r).filter fun p => decide (k + 0 ≤ p.1) && decide (p.1 < k + (b' + 1))) := by
        apply List.filter_congr
        intro p hp
        have := hge p hp
        rw [Bool.eq_iff_iff]
        simp only [Bool.and_eq_true, decide_eq_true_eq]
        omega
      rw [e] at ih
      cases t with
      | none => exact ih
      | some x =>
        have h1 : (decide (k + 0 ≤ k) && decide (k < k + (b' + 1))) = true := by simp
        show (x :: things (r.take b')).length = (((k, x) :: posT (k + 1) r).filter _).length
        rw [List.filter_cons, if_pos h1, List.length_cons, List.length_cons, ih]
    | succ a' =>
      rw [List.drop_succ_cons, Nat.add_sub_add_right, cnt_pos r (k + 1) a' b']
      have e : ((posT (k + 1) r).filter fun p => decide (k + 1 + a' ≤ p.1) && decide (p.1 < k + 1 + b')) = ((posT (k + 1) r).filter fun p => decide (k + (a' + 1) ≤ p.1) && decide (p.1 < k + (b' + 1))) := by
        apply List.filter_congr
        intro p hp
        rw [Bool.eq_iff_iff]
        simp only [Bool.and_eq_true, decide_eq_true_eq]
        omega
      rw [e]
      cases t with
      | none => rfl
      | some x =>
        have h1 : ¬ (decide (k + (a' + 1) ≤ k) && decide (k < k + (b' + 1))) = true := by simp
        show _ = (((k, x) :: posT (k + 1) r).filter _).length
        rw [List.filter_cons, if_neg h1]
theorem cnt_eq (s : List Thing) (a b : Nat) : cnt s a b = (((posT 0 s).map (·.1)).filter fun p => decide (a ≤ p) && decide (p < b)).length := by
  unfold cnt
  rw [cnt_pos s 0 a b, List.filter_map, List.length_map]
  congr 1
  apply List.filter_congr
  intro p _
  simp
end LL
set_option maxHeartbeats 4000000
namespace LL
open PySem L2
def l_twofold_1 : PSt := (pSet 1 (vS (pOp dMul (pVar 1) (pCon (.int 2)))))
def b_twofold : PSt := (pSq (pSet 1 (vS (pCon (.int 1))))
    (pSq (pFor (pCallL gRange1 (pCons (pVar 0) pNil)) (bs1 2) l_twofold_1)
    (pRet (pVar 1))))
def m_twofold : List D → Option D := runF 1 3 b_twofold
def b_places_of : PSt := (pSq (pSet 2 (vS (pOp dIx (pVar 0) (pCon (.int 1)))))
    (pRet (pOp dMul (pCall m_twofold (pCons (pVar 1) pNil)) (pVar 2))))
def m_places_of : List D → Option D := runF 2 3 b_places_of
def b_stretch_of : PSt := (pSq (pSet 3 (vS (pCall m_places_of (pCons (pVar 0) (pCons (pVar 1) pNil)))))
    (pSq (pSet 4 (vS (pOp dMul (pOp dDiv (pVar 2) (pVar 3)) (pVar 3))))
    (pRet (pTup (pCons (pVar 4) (pCons (pOp dAdd (pVar 4) (pVar 3)) pNil))))))
def m_stretch_of : List D → Option D := runF 3 5 b_stretch_of
def b_cap_of : PSt := (pSq (pSet 2 (vS (pOp dIx (pVar 0) (pCon (.int 1)))))
    (pSq (pSet 3 (vS (pOp dIx (pVar 0) (pCon (.int 2)))))
    (pRet (pOp dMul (pCall m_twofold (pCons (pVar 1) pNil)) (pOp dSub (pVar 2) (pOp dMul (pVar 3) (pVar 1)))))))
def m_cap_of : List D → Option D := runF 2 4 b_cap_of
def b_targets : PSt := (pRetL (pComp (pCallL gRange1 (pCons (pVar 0) pNil)) (bd1 0) pTrue (pOp dDiv (pOp dMul (pVar 0) (pVar 2)) (pVar 1)) 1 [0, 1]))
def m_targets : List D → Option (List D) := runL 2 2 b_targets
def l_place_of_1 : PSt := (pIfS (pAndT (pTest (pOp dNe (pVar 3) (pTup pNil))) (pTest (pOp dEq (pOp dIx (pVar 3) (pCon (.int 0))) (pVar 1))))
        (pRet (pVar 2)) pNx)
def b_place_of : PSt := (pSq (pFor (pCallL gEnum (pCons (pVar 0) pNil)) (bs2 2 3) l_place_of_1)
    (pRet (pCon .none)))
def m_place_of : List D → Option D := runF 2 4 b_place_of
def l_seat_of_1 : PSt := (pIfS (pAndT (pTest (pOp dNe (pVar 4) (pTup pNil))) (pTest (pOp dLt (pOp dIx (pVar 4) (pCon (.int 0))) (pVar 1))))
        (pSet 2 (vS (pVar 3))) pNx)
def b_seat_of : PSt := (pSq (pSet 2 (vS (pCon (.int 0))))
    (pSq (pFor (pCallL gEnum (pCons (pVar 0) pNil)) (bs2 3 4) l_seat_of_1)
    (pRet (pVar 2))))
def m_seat_of : List D → Option D := runF 2 5 b_seat_of
def l_height_for_1 : PSt := (pSq (pSet 6 (vS (pCall m_stretch_of (pCons (pVar 0) (pCons (pVar 5) (pCons (pVar 4) pNil))))))
      (pIfS (pTest (pOp dLt (pCall m_held (pCons (pVar 2) (pCons (pOp dIx (pVar 6) (pCon (.int 0))) (pCons (pOp dIx (pVar 6) (pCon (.int 1))) pNil)))) (pCall m_cap_of (pCons (pVar 0) (pCons (pVar 5) pNil)))))
        (pRet (pVar 5)) pNx))
def b_height_for : PSt := (pSq (pSet 4 (vS (pCall m_seat_of (pCons (pVar 2) (pCons (pVar 3) pNil)))))
    (pSq (pFor (pCallL gRange1 (pCons (pOp dAdd (pVar 1) (pCon (.int 1))) pNil)) (bs1 5) l_height_for_1)
    (pRet (pCon .none))))
def m_height_for : List D → Option D := runF 4 7 b_height_for
theorem twofold_eq (h : Nat) (hh : h < 1000) : m_twofold [.int (h : Int)] = some (.int (2 ^ h)) := by
  have loop := for_range_inv (bs := bs1 2) (F := l_twofold_1) (lo := 0) (fun i ρ => ∃ s2, ρ = [.sh (.int (h : Int)), .sh (.int (2 ^ i)), s2]) h ?_ [.sh (.int (h : Int)), .sh (.int 1), .no] ⟨_, rfl⟩
  · obtain ⟨ρ', hf, s2, rfl⟩ := loop
    have hr := gRange1_int (h : Int) ⟨by omega, by omega⟩
    rw [Int.toNat_natCast] at hr
    generalize (2 : Int) ^ h = P at *
    refine runF_of (o := .rt (.int P)) rfl ?_ rfl
    unfold b_twofold
    refine sq_nx (ρ' := [.sh (.int (h : Int)), .sh (.int 1), .no]) (by clear hf; walk_at "pu") ?_
    refine sq_nx ((for_eq (items := rangeD 0 h) (by clear hf; walk_at "pu")).trans hf) (by clear hf hr; walk_at "pu")
  · rintro i ρ hi ⟨s2, rfl⟩
    rw [Int.zero_add]
    refine ⟨_, [.sh (.int (h : Int)), .sh (.int (2 ^ (i + 1))), .sh (.int (i : Int))], rfl, ?_, _, rfl⟩
    rw [Int.pow_succ]
    generalize (2 : Int) ^ i = P
    unfold l_twofold_1
    clear hi hh
    walk_at "pu"
theorem p2_small {h : Nat} (hh : h ≤ 4) : -18446744073709551616 < (2 : Int) ^ h ∧ (2 : Int) ^ h < 18446744073709551616 := by
  match h, hh with
  | 0, _ => decide
  | 1, _ => decide
  | 2, _ => decide
  | 3, _ => decide
  | 4, _ => decide
theorem places_eq {t : Int} {w st h : Nat} (hh : h ≤ 4) : m_places_of [.tuple [.int t, .int (w : Int), .int (st : Int)], .int (h : Int)] = some (.int ((2 ^ h * w : Nat) : Int)) := by
  have h2 := twofold_eq h (by omega)
  have hs := p2_small hh
  rw [Int.natCast_mul, Int.natCast_pow, show ((2 : Nat) : Int) = 2 from rfl]
  generalize (2 : Int) ^ h = P at *
  refine runF_of (o := .rt (.int _)) rfl ?_ rfl
  unfold b_places_of
  clear hh
  walk_at "pu"
theorem stretch_eq {t : Int} {w st h p : Nat} (hh : h ≤ 4) (w1 : 1 ≤ w) (w20 : w ≤ 20) : m_stretch_of [.tuple [.int t, .int (w : Int), .int (st : Int)], .int (h : Int), .int (p : Int)] = some (.tuple [.int (beg w p h : Int), .int ((beg w p h + 2 ^ h * w : Nat) : Int)]) := by
  have h2 := places_eq (t := t) (w := w) (st := st) hh
  have hz := pw_ok hh w1 w20
  unfold beg
  rw [Int.natCast_add, Int.natCast_mul (p / (2 ^ h * w)), Int.natCast_ediv]
  generalize 2 ^ h * w = Z at *
  have a1 : 0 < (Z : Int) ∧ (Z : Int) < 1073741824 := by omega
  have a2 : -18446744073709551616 < (Z : Int) ∧ (Z : Int) < 18446744073709551616 := by omega
  refine runF_of (o := .rt (.tuple _)) rfl ?_ rfl
  unfold b_stretch_of
  clear hh hz w1 w20
  walk_at "pu"
theorem cap_eq {t : Int} {w st h : Nat} (hh : h ≤ 4) (st20 : st ≤ 20) : m_cap_of [.tuple [.int t, .int (w : Int), .int (st : Int)], .int (h : Int)] = some (.int (2 ^ h * ((w : Int) - (h : Int) * (st : Int)))) := by
  have h2 := twofold_eq h (by omega)
  have hs := p2_small hh
  have hs2 : -18446744073709551616 < (st : Int) ∧ (st : Int) < 18446744073709551616 := by omega
  rw [Int.mul_comm (h : Int) (st : Int)]
  generalize (2 : Int) ^ h = P at *
  refine runF_of (o := .rt (.int _)) rfl ?_ rfl
  unfold b_cap_of
  clear hh st20
  walk_at "pu"
theorem held_eq (ts : List Thing) (hl : ts.length < 16777216) (a b : Nat) : m_held [.list (ts.map encD), .int (a : Int), .int (b : Int)] = some (.int (cnt ts a b : Int)) := by
  have hc : pComp (pCallL gEnum (pCons (pVar 0) pNil)) (bd2 0 1) (pAndT (pTest (pChain dLe dLt (pVar 2) (pVar 0) (pVar 3))) (pTest (pOp dNe (pVar 1) (pTup pNil)))) (pVar 1) 2 [1, 2] [some (.list (ts.map encD)), some (.int (a : Int)), some (.int (b : Int))] =
      some (((List.range ts.length).filter fun i => (decide (a ≤ i) && decide (i < b)) && full' (ts.getD i none)).map fun i => encD (ts.getD i none)) := by
    rw [comp_eq (items := (List.range ts.length).map (plD ts)) (by rw [← enum_ts]; walk_at "pu") (by simpa using hl), compP_map (plD ts) (fun i => (decide (a ≤ i) && decide (i < b)) && full' (ts.getD i none)) fun i => encD (ts.getD i none)]
    intro i hi
    refine ⟨[some (.int (i : Int)), some (encD (ts.getD i none)), some (.int (a : Int)), some (.int (b : Int))], rfl, ?_, fun _ => rfl⟩
    have e1 : decide ((a : Int) ≤ (i : Int)) = decide (a ≤ i) := by simp
    have e2 : decide ((i : Int) < (b : Int)) = decide (i < b) := by simp
    have e3 : full' (ts.getD i none) = !decide (ts.getD i none = none) := rfl
    rw [e3]
    generalize ts.getD i none = u at *
    clear hi hl e3
    by_cases c1 : a ≤ i
    · by_cases c2 : i < b
      · have c1' : (a : Int) ≤ (i : Int) := by omega
        have c2' : (i : Int) < (b : Int) := by omega
        clear e1 e2
        walk_at "pu"
      · have c1' : (a : Int) ≤ (i : Int) := by omega
        have c2' : ¬ (i : Int) < (b : Int) := by omega
        clear e1 e2
        walk_at "pu"
    · have c1' : ¬ (a : Int) ≤ (i : Int) := by omega
      clear e1 e2
      walk_at "pu"
  have hn : ((List.range ts.length).filter fun i => (decide (a ≤ i) && decide (i < b)) && full' (ts.getD i none)).length = cnt ts a b := by
    rw [cnt_eq, ← range_pos, List.filter_filter, ← List.range_eq_range']
    refine congrArg List.length (List.filter_congr fun i _ => ?_)
    rw [Nat.sub_zero]
  refine runF_of (o := .rt (.int _)) rfl ?_ rfl
  unfold b_held
  rw [← hn]
  generalize ((List.range ts.length).filter fun i => (decide (a ≤ i) && decide (i < b)) && full' (ts.getD i none)) = X at *
  clear hn hl
  walk_at "pu"
theorem cnt_all (ts : List Thing) : cnt ts 0 ts.length = (things ts).length := by
  unfold cnt
  simp
theorem seat_eq (ts : List Thing) (hl : ts.length < 16777216) (k : Int) : m_seat_of [.list (ts.map encD), .int k] = some (.int (seatN ts k ts.length : Int)) := by
  have loop := for_places (bs := bs2 3 4) (F := l_seat_of_1) ts (fun i ρ => ∃ s3 s4, ρ = [.sh (.list (ts.map encD)), .sh (.int k), .sh (.int (seatN ts k i : Int)), s3, s4]) ?_ [.sh (.list (ts.map encD)), .sh (.int k), .sh (.int 0), .no, .no] ⟨_, _, rfl⟩
  · obtain ⟨ρ', hf, s3, s4, rfl⟩ := loop
    refine runF_of (o := .rt (.int (seatN ts k ts.length : Int))) rfl ?_ rfl
    unfold b_seat_of
    refine sq_nx (ρ' := [.sh (.list (ts.map encD)), .sh (.int k), .sh (.int 0), .no, .no]) (by clear hf; walk_at "pu") ?_
    refine sq_nx ((for_eq (items := enumD (ts.map encD)) (by clear hf; walk_at "pu")).trans hf) (by clear hf; walk_at "pu")
  · rintro i ρ hi ⟨s3, s4, rfl⟩
    refine ⟨_, [.sh (.list (ts.map encD)), .sh (.int k), .sh (.int (seatN ts k (i + 1) : Int)), .sh (.int (i : Int)), .sh (encD (ts.getD i none))], rfl, ?_, _, _, rfl⟩
    have hs : seatN ts k (i + 1) = if lessAt ts k i = true then i else seatN ts k i := rfl
    unfold lessAt at hs
    generalize ts.getD i none = t at *
    generalize seatN ts k i = s at *
    generalize seatN ts k (i + 1) = s' at *
    unfold l_seat_of_1
    cases t with
    | none =>
      have hs' : s' = s := by simpa using hs
      subst hs'
      clear hs hi
      walk_at "pu"
    | some x =>
      have hx : encD (some x) = .tuple [.int x.1, .int x.2] := rfl
      have hne : dNe (.tuple [.int x.1, .int x.2]) (.tuple []) = some (.bool true) := by rfl
      rw [hx]
      by_cases hk : x.1 < k
      · have hs' : s' = i := by simpa [hk] using hs
        subst hs'
        clear hs hi hx
        walk_at "pu"
      · have hs' : s' = s := by simpa [hk] using hs
        subst hs'
        clear hs hi hx
        walk_at "pu"
def placeF (k : Int) : Nat → List Thing → Option Nat
  | _, [] => none
  | i, none :: r => placeF k (i + 1) r
  | i, some x :: r => if x.1 = k then some i else placeF k (i + 1) r
theorem placeF_none {k : Int} : ∀ (ts : List Thing) (i : Nat), placeF k i ts = none ↔ k ∉ keysOf ts
  | [], i => by simp [placeF, keysOf]
  | none :: r, i => by rw [placeF, keysOf_none]; exact placeF_none r (i + 1)
  | some x :: r, i => by
    rw [placeF, keysOf_some]
    have ih := placeF_none (k := k) r (i + 1)
    split
    · rename_i h
      simp [h]
    · rename_i h
      rw [ih, List.mem_cons, not_or]
      exact ⟨fun q => ⟨fun e => h e.symm, q⟩, fun q => q.2⟩
theorem placeF_some {k : Int} : ∀ (ts : List Thing) (i p : Nat), placeF k i ts = some p → i ≤ p ∧ p < i + ts.length ∧ ∃ a, ts.getD (p - i) none = some (k, a)
  | [], i, p, h => by cases h
  | none :: r, i, p, h => by
    obtain ⟨h1, h2, a, h3⟩ := placeF_some r (i + 1) p h
    refine ⟨by omega, by simp; omega, a, ?_⟩
    rw [show p - i = (p - (i + 1)) + 1 by omega]
    exact h3
  | some x :: r, i, p, h => by
    rw [placeF] at h
    split at h
    · rename_i e
      cases h
      exact ⟨Nat.le_refl _, by simp, x.2, by rw [Nat.sub_self]; show some x = _; rw [← e]⟩
    · obtain ⟨h1, h2, a, h3⟩ := placeF_some r (i + 1) p h
      refine ⟨by omega, by simp; omega, a, ?_⟩
      rw [show p - i = (p - (i + 1)) + 1 by omega]
      exact h3
theorem place_loop (L : D) (k : Int) : ∀ (ts : List Thing) (i : Nat) (s2 s3 : Sl),
    (∃ s2' s3', placeF k i ts = none ∧ forP (bs2 2 3) l_place_of_1 ((ts.map encD).zipIdx i |>.map fun p => .tuple [.int (p.2 : Nat), p.1]) [.sh L, .sh (.int k), s2, s3] = some (.nx [.sh L, .sh (.int k), s2', s3'])) ∨
    (∃ p, placeF k i ts = some p ∧ forP (bs2 2 3) l_place_of_1 ((ts.map encD).zipIdx i |>.map fun p => .tuple [.int (p.2 : Nat), p.1]) [.sh L, .sh (.int k), s2, s3] = some (.rt (.int (p : Int))))
  | [], i, s2, s3 => .inl ⟨s2, s3, rfl, rfl⟩
  | none :: r, i, s2, s3 => by
    have hstep : l_place_of_1 [.sh L, .sh (.int k), .sh (.int (i : Int)), .sh (encD none)] = some (.nx [.sh L, .sh (.int k), .sh (.int (i : Int)), .sh (encD none)]) := by
      unfold l_place_of_1
      walk_at "pu"
    have h1 := forP_nx (bs := bs2 2 3) (F := l_place_of_1) (d := .tuple [.int (i : Int), encD none]) (ds := ((r.map encD).zipIdx (i + 1) |>.map fun p => .tuple [.int (p.2 : Nat), p.1])) (ρ := [.sh L, .sh (.int k), s2, s3]) rfl hstep
    rcases place_loop L k r (i + 1) (.sh (.int (i : Int))) (.sh (encD none)) with ⟨a, b, q1, q2⟩ | ⟨p, q1, q2⟩
    · exact .inl ⟨a, b, q1, h1.trans q2⟩
    · exact .inr ⟨p, q1, h1.trans q2⟩
  | some x :: r, i, s2, s3 => by
    have hx : encD (some x) = .tuple [.int x.1, .int x.2] := rfl
    have hne : dNe (.tuple [.int x.1, .int x.2]) (.tuple []) = some (.bool true) := by rfl
    by_cases hk : x.1 = k
    · have hstep : l_place_of_1 [.sh L, .sh (.int k), .sh (.int (i : Int)), .sh (encD (some x))] = some (.rt (.int (i : Int))) := by
        unfold l_place_of_1
        rw [hx]
        clear hx
        subst hk
        walk_at "pu"
      exact .inr ⟨i, by rw [placeF, if_pos hk], forP_rt (bs := bs2 2 3) (F := l_place_of_1) (d := .tuple [.int (i : Int), encD (some x)]) rfl hstep⟩
    · have hstep : l_place_of_1 [.sh L, .sh (.int k), .sh (.int (i : Int)), .sh (encD (some x))] = some (.nx [.sh L, .sh (.int k), .sh (.int (i : Int)), .sh (encD (some x))]) := by
        unfold l_place_of_1
        rw [hx]
        clear hx
        walk_at "pu"
      have h1 := forP_nx (bs := bs2 2 3) (F := l_place_of_1) (d := .tuple [.int (i : Int), encD (some x)]) (ds := ((r.map encD).zipIdx (i + 1) |>.map fun p => .tuple [.int (p.2 : Nat), p.1])) (ρ := [.sh L, .sh (.int k), s2, s3]) rfl hstep
      rcases place_loop L k r (i + 1) (.sh (.int (i : Int))) (.sh (encD (some x))) with ⟨a, b, q1, q2⟩ | ⟨p, q1, q2⟩
      · exact .inl ⟨a, b, by rw [placeF, if_neg hk]; exact q1, h1.trans q2⟩
      · exact .inr ⟨p, by rw [placeF, if_neg hk]; exact q1, h1.trans q2⟩
theorem place_eq (ts : List Thing) (k : Int) : m_place_of [.list (ts.map encD), .int k] = some (optI (placeF k 0 ts)) := by
  rcases place_loop (.list (ts.map encD)) k ts 0 .no .no with ⟨a, b, q1, q2⟩ | ⟨p, q1, q2⟩
  · refine runF_of (o := .rt .none) rfl ?_ (by rw [q1]; rfl)
    unfold b_place_of
    refine sq_nx ((for_eq (items := enumD (ts.map encD)) (by clear q1 q2; walk_at "pu")).trans q2) (by clear q1 q2; walk_at "pu")
  · refine runF_of (o := .rt (.int (p : Int))) rfl ?_ (by rw [q1]; rfl)
    unfold b_place_of
    exact sq_rt ((for_eq (items := enumD (ts.map encD)) (by clear q1 q2; walk_at "pu")).trans q2)
theorem targets_eq {n W : Nat} (hn : 0 < n) (hn2 : n < 16777216) : m_targets [.int (n : Int), .int (W : Int)] = some (tgD n W) := by
  have hr := range_natD n hn2
  have hc : pComp (pCallL gRange1 (pCons (pVar 0) pNil)) (bd1 0) pTrue (pOp dDiv (pOp dMul (pVar 0) (pVar 2)) (pVar 1)) 1 [0, 1] [some (.int (n : Int)), some (.int (W : Int))] = some (tgD n W) := by
    rw [comp_eq (items := (List.range n).map fun i : Nat => .int (i : Int)) (by walk_at "pu") (by simpa using hn2), compP_mapT _ (fun i => .int (tgt n W i : Int))]
    · rfl
    · intro i hi
      have hi' := List.mem_range.mp hi
      refine ⟨[some (.int (i : Int)), some (.int (n : Int)), some (.int (W : Int))], rfl, ?_⟩
      have e : ((tgt n W i : Nat) : Int) = (i : Int) * (W : Int) / (n : Int) := by
        unfold tgt
        rw [Int.natCast_ediv, Int.natCast_mul]
      have a1 : 0 < (n : Int) ∧ (n : Int) < 1073741824 := by omega
      have a2 : -18446744073709551616 < (i : Int) ∧ (i : Int) < 18446744073709551616 := by omega
      clear hr hi hi'
      walk_at "pu"
  refine runL_of rfl ?_
  unfold b_targets
  walk_at "pu"
theorem for_first {bs : D → SEnv → Option SEnv} {F : PSt} (R : SEnv → Prop) {h n : Nat} {r : D} (hn : h < n) (H : ∀ (i : Nat) ρ, i < h → R ρ → ∃ ρ1 ρ2, bs (.int (i : Int)) ρ = some ρ1 ∧ F ρ1 = some (.nx ρ2) ∧ R ρ2) (Hl : ∀ ρ, R ρ → ∃ ρ1, bs (.int (h : Int)) ρ = some ρ1 ∧ F ρ1 = some (.rt r)) (ρ : SEnv) (h0 : R ρ) :
    forP bs F (rangeD 0 n) ρ = some (.rt r) := by
  have key : ∀ (d j : Nat) (ρ : SEnv), j + d = h → R ρ → forP bs F ((List.range' j (n - j)).map fun i : Nat => (.int (0 + (i : Int)) : D)) ρ = some (.rt r) := by
    intro d
    induction d with
    | zero =>
      intro j ρ hj hr
      obtain ⟨m, hm⟩ : ∃ m, n - j = m + 1 := ⟨n - j - 1, by omega⟩
      rw [hm, List.range'_succ, List.map_cons, Int.zero_add]
      have : j = h := by omega
      subst this
      obtain ⟨ρ1, q1, q2⟩ := Hl ρ hr
      exact forP_rt q1 q2
    | succ d ih =>
      intro j ρ hj hr
      obtain ⟨m, hm⟩ : ∃ m, n - j = m + 1 := ⟨n - j - 1, by omega⟩
      rw [hm, List.range'_succ, List.map_cons, Int.zero_add]
      obtain ⟨ρ1, ρ2, q1, q2, q3⟩ := H j ρ (by omega) hr
      rw [forP_nx q1 q2]
      have := ih (j + 1) ρ2 (by omega) q3
      rw [show n - (j + 1) = m by omega] at this
      exact this
  have := key h 0 ρ (by omega) h0
  rw [Nat.sub_zero, ← List.range_eq_range'] at this
  exact this
theorem height_eq (ts : List Thing) (t : Int) (w st hh : Nat) (k : Int) (h : Nat) (w1 : 1 ≤ w) (w20 : w ≤ 20) (st20 : st ≤ 20) (h4 : hh ≤ 4) (hlen : ts.length = 2 ^ hh * w) (hle : h ≤ hh) (hr : roomy ts w st (seatN ts k ts.length) h) (hno : ∀ l, l < h → ¬ roomy ts w st (seatN ts k ts.length) l) :
    m_height_for [.tuple [.int t, .int (w : Int), .int (st : Int)], .int (hh : Int), .list (ts.map encD), .int k] = some (.int (h : Int)) := by
  have hz := pw_ok h4 w1 w20
  have hl : ts.length < 16777216 := by omega
  have hseat := seat_eq ts hl k
  generalize seatN ts k ts.length = s at *
  have loop := for_first (bs := bs1 5) (F := l_height_for_1) (r := .int (h : Int)) (n := hh + 1) (h := h) (fun ρ => ∃ s5 s6, ρ = [.sh (.tuple [.int t, .int (w : Int), .int (st : Int)]), .sh (.int (hh : Int)), .sh (.list (ts.map encD)), .sh (.int k), .sh (.int (s : Int)), s5, s6]) (by omega) ?_ ?_ [.sh (.tuple [.int t, .int (w : Int), .int (st : Int)]), .sh (.int (hh : Int)), .sh (.list (ts.map encD)), .sh (.int k), .sh (.int (s : Int)), .no, .no] ⟨_, _, rfl⟩
  · have hr := gRange1_int ((hh : Int) + 1) ⟨by omega, by omega⟩
    rw [show ((hh : Int) + 1).toNat = hh + 1 by omega] at hr
    refine runF_of (o := .rt (.int (h : Int))) rfl ?_ rfl
    unfold b_height_for
    clear hno hz hle hl h4 st20 w20 w1 hlen
    refine sq_nx (ρ' := [.sh (.tuple [.int t, .int (w : Int), .int (st : Int)]), .sh (.int (hh : Int)), .sh (.list (ts.map encD)), .sh (.int k), .sh (.int (s : Int)), .no, .no]) (by clear loop hr; walk_at "pu") ?_
    exact sq_rt ((for_eq (items := rangeD 0 (hh + 1)) (by clear loop; walk_at "pu")).trans loop)
  · rintro i ρ hi ⟨s5, s6, rfl⟩
    have hs := stretch_eq (t := t) (w := w) (st := st) (h := i) (p := s) (by omega) w1 w20
    have hc := cap_eq (t := t) (w := w) (st := st) (h := i) (by omega) st20
    have hheld := held_eq ts hl (beg w s i) (beg w s i + 2 ^ i * w)
    have hnot := hno i hi
    unfold roomy at hnot
    generalize hC : (cnt ts (beg w s i) (beg w s i + 2 ^ i * w) : Int) = C at *
    generalize hP : (2 : Int) ^ i * ((w : Int) - (i : Int) * (st : Int)) = P at *
    generalize ((beg w s i + 2 ^ i * w : Nat) : Int) = E at *
    generalize (beg w s i : Int) = B at *
    refine ⟨_, [.sh (.tuple [.int t, .int (w : Int), .int (st : Int)]), .sh (.int (hh : Int)), .sh (.list (ts.map encD)), .sh (.int k), .sh (.int (s : Int)), .sh (.int (i : Int)), .sh (.tuple [.int B, .int E])], rfl, ?_, _, _, rfl⟩
    unfold l_height_for_1
    clear hno hC hP hr hseat hz hle hl h4 st20 w20 w1 hlen hi
    walk_at "pu"
  · rintro ρ ⟨s5, s6, rfl⟩
    have hs := stretch_eq (t := t) (w := w) (st := st) (h := h) (p := s) (by omega) w1 w20
    have hc := cap_eq (t := t) (w := w) (st := st) (h := h) (by omega) st20
    have hheld := held_eq ts hl (beg w s h) (beg w s h + 2 ^ h * w)
    unfold roomy at hr
    generalize hC : (cnt ts (beg w s h) (beg w s h + 2 ^ h * w) : Int) = C at *
    generalize hP : (2 : Int) ^ h * ((w : Int) - (h : Int) * (st : Int)) = P at *
    generalize ((beg w s h + 2 ^ h * w : Nat) : Int) = E at *
    generalize (beg w s h : Int) = B at *
    refine ⟨_, rfl, ?_⟩
    unfold l_height_for_1
    clear hno hC hP hseat hz hle hl h4 st20 w20 w1 hlen
    walk_at "pu"
end LL
set_option maxHeartbeats 4000000
namespace LL
open PySem L2
theorem erase_map {α β : Type} (f : α → β) : ∀ (xs : List α) (k : Nat), (xs.map f).eraseIdx k = (xs.eraseIdx k).map f
  | [], _ => rfl
  | _ :: _, 0 => rfl
  | x :: xs, k + 1 => congrArg (f x :: ·) (erase_map f xs k)
def mvD (t : Tr) : D := encM (t.1, t.2.1)
def wsOf (l : List Tr) : List (Nat × Thing) := l.flatMap fun t => [(t.2.1, some t.2.2), (t.1, none)]
theorem wsOf_len (l : List Tr) : (wsOf l).length = 2 * l.length := by
  induction l with
  | nil => rfl
  | cons t l ih => show (wsOf l).length + 1 + 1 = _; rw [ih, List.length_cons]; omega
theorem wsOf_app (l m : List Tr) : wsOf (l ++ m) = wsOf l ++ wsOf m := by
  unfold wsOf
  rw [List.flatMap_append]
theorem wsOf_snoc (l : List Tr) (t : Tr) : wsOf (l ++ [t]) = wsOf l ++ [(t.2.1, some t.2.2), (t.1, none)] := wsOf_app l [t]
theorem doneF_app (ts : List Thing) (a b : List (Nat × Thing)) : doneF ts (a ++ b) = doneF (doneF ts a) b := by
  unfold doneF
  rw [List.foldl_append]
theorem Run.done {P : List Thing → Tr → Prop} {s s' : List Thing} {l : List Tr} (r : Run P s l s') : s' = doneF s (wsOf l) := by
  induction r with
  | nil => rfl
  | cons _ _ ih => exact ih
theorem Run.mid {P : List Thing → Tr → Prop} {t : Tr} {post : List Tr} {s' : List Thing} : ∀ {pre : List Tr} {s : List Thing}, Run P s (pre ++ t :: post) s' → P (doneF s (wsOf pre)) t
  | [], s, r => by cases r with | cons p _ => exact p
  | u :: pre, s, r => by cases r with | cons _ r => exact Run.mid (pre := pre) r
def zipT (P : PP) (A : List Nat) : List Tr := List.zipWith (fun p a => (p.1, a, p.2)) P A
theorem zipT_ok : ∀ (P : PP) (A : List Nat), A.length = P.length → (zipT P A).map (·.1) = P.map (·.1) ∧ (zipT P A).map (fun t => t.2.1) = A ∧ at0 (zipT P A) = P
  | [], [], _ => ⟨rfl, rfl, rfl⟩
  | [], _ :: _, h => by simp at h
  | _ :: _, [], h => by simp at h
  | p :: P, a :: A, h => by
    obtain ⟨h1, h2, h3⟩ := zipT_ok P A (by simpa using h)
    refine ⟨?_, ?_, ?_⟩
    · show p.1 :: (zipT P A).map (·.1) = p.1 :: P.map (·.1)
      rw [h1]
    · show a :: (zipT P A).map (fun t => t.2.1) = a :: A
      rw [h2]
    · show (p.1, p.2) :: at0 (zipT P A) = p :: P
      rw [h3]
theorem zipT_at2 : ∀ (P : PP) (A : List Nat), A.length = P.length → (at2 (zipT P A)).map (·.1) = A ∧ (at2 (zipT P A)).map (·.2) = P.map (·.2)
  | [], [], _ => ⟨rfl, rfl⟩
  | [], _ :: _, h => by simp at h
  | _ :: _, [], h => by simp at h
  | p :: P, a :: A, h => by
    obtain ⟨h1, h2⟩ := zipT_at2 P A (by simpa using h)
    exact ⟨congrArg (a :: ·) h1, congrArg (p.2 :: ·) h2⟩
theorem zipT_app : ∀ (P : PP) (A : List Nat) (Q : PP) (B : List Nat), A.length = P.length → zipT (P ++ Q) (A ++ B) = zipT P A ++ zipT Q B := fun P A Q B h => by
  unfold zipT
  exact List.zipWith_append h.symm
theorem zipT_len (P : PP) (A : List Nat) (h : A.length = P.length) : (zipT P A).length = P.length := by
  unfold zipT
  rw [List.length_zipWith, h, Nat.min_self]
theorem zipT_up : ∀ (P : PP) (A : List Nat), A.length = P.length → P.Pairwise (fun a b => a.1 < b.1) → A.Pairwise (· < ·) → Up (zipT P A)
  | [], [], _, _, _ => .nil
  | [], _ :: _, h, _, _ => by simp at h
  | _ :: _, [], h, _, _ => by simp at h
  | p :: P, a :: A, h, hp, ha => by
    have hl : A.length = P.length := by simpa using h
    obtain ⟨h1, h2, _⟩ := zipT_ok P A hl
    have hp' := List.pairwise_cons.mp hp
    have ha' := List.pairwise_cons.mp ha
    refine List.pairwise_cons.mpr ⟨fun t ht => ⟨?_, ?_⟩, zipT_up P A hl hp'.2 ha'.2⟩
    · have : t.1 ∈ P.map (·.1) := by rw [← h1]; exact List.mem_map_of_mem ht
      obtain ⟨b, hb, e⟩ := List.mem_map.mp this
      have := hp'.1 b hb
      show p.1 < t.1
      rw [← e]
      exact this
    · have : t.2.1 ∈ A := by
        rw [← h2]
        exact List.mem_map.mpr ⟨t, ht, rfl⟩
      exact ha'.1 _ this
theorem few_moves : ∀ l : List Tr, (onw l).length + (bkw l).length ≤ l.length
  | [] => Nat.le_refl _
  | t :: l => by
    have ih := few_moves l
    unfold onw bkw at *
    rw [List.length_reverse] at *
    rw [List.filter_cons, List.filter_cons]
    by_cases c1 : t.1 < t.2.1
    · have c2 : ¬ t.2.1 < t.1 := by omega
      simp only [c1, c2, decide_true, decide_false, if_true, List.length_cons, Bool.false_eq_true, if_false]
      omega
    · by_cases c2 : t.2.1 < t.1
      · simp only [c1, c2, decide_true, decide_false, if_true, List.length_cons, Bool.false_eq_true, if_false]
        omega
      · simp only [c1, c2, decide_false, List.length_cons, Bool.false_eq_true, if_false]
        omega
theorem posT_app : ∀ (a b : List Thing) (k : Nat), posT k (a ++ b) = posT k a ++ posT (k + a.length) b
  | [], b, k => rfl
  | none :: a, b, k => by
    show posT (k + 1) (a ++ b) = posT (k + 1) a ++ _
    rw [posT_app a b (k + 1), List.length_cons, show k + 1 + a.length = k + (a.length + 1) by omega]
  | some x :: a, b, k => by
    show (k, x) :: posT (k + 1) (a ++ b) = (k, x) :: posT (k + 1) a ++ _
    rw [posT_app a b (k + 1), List.length_cons, show k + 1 + a.length = k + (a.length + 1) by omega]
    rfl
def stT (P : PP) : List Tr := P.map fun p => (p.1, p.1, p.2)
theorem stT_at (P : PP) : at0 (stT P) = P ∧ at2 (stT P) = P := by
  unfold at0 at2 stT
  constructor <;> rw [List.map_map] <;> exact List.map_id _
theorem stT_mv (P : PP) : onw (stT P) = [] ∧ bkw (stT P) = [] := by
  have h : ∀ t ∈ stT P, t.1 = t.2.1 := fun t ht => by
    obtain ⟨p, _, rfl⟩ := List.mem_map.mp ht
    rfl
  constructor
  · unfold onw
    rw [List.filter_eq_nil_iff.mpr fun t ht => by have := h t ht; simp [this]]
    rfl
  · unfold bkw
    exact List.filter_eq_nil_iff.mpr fun t ht => by have := h t ht; simp [this]
theorem onw_app (a b : List Tr) : onw (a ++ b) = onw b ++ onw a := by
  unfold onw
  rw [List.filter_append, List.reverse_append]
theorem bkw_app (a b : List Tr) : bkw (a ++ b) = bkw a ++ bkw b := by
  unfold bkw
  rw [List.filter_append]
theorem up_app {a b : List Tr} (ha : Up a) (hb : Up b) (h : ∀ s ∈ a, ∀ t ∈ b, s.1 < t.1 ∧ s.2.1 < t.2.1) : Up (a ++ b) := List.pairwise_append.mpr ⟨ha, hb, h⟩
theorem stT_up {P : PP} (h : P.Pairwise fun a b => a.1 < b.1) : Up (stT P) := by
  unfold Up stT
  rw [List.pairwise_map]
  exact h.imp fun q => ⟨q, q⟩
theorem part_run {X Y Z : List Thing} {A : List Nat} (hA : A.length = (posT X.length Y).length) (hup : A.Pairwise (· < ·)) (hin : ∀ a ∈ A, X.length ≤ a ∧ a < X.length + Y.length) :
    ∃ s', Run IsMv (X ++ Y ++ Z) (onw (zipT (posT X.length Y) A) ++ bkw (zipT (posT X.length Y) A)) s' ∧ posT 0 s' = posT 0 X ++ at2 (zipT (posT X.length Y) A) ++ posT (X.length + Y.length) Z ∧ s'.length = (X ++ Y ++ Z).length := by
  generalize hl : zipT (posT X.length Y) A = l
  have hup2 := zipT_up (posT X.length Y) A hA (posT_sorted _ _) hup
  obtain ⟨o1, o2, o3⟩ := zipT_ok (posT X.length Y) A hA
  rw [hl] at hup2 o1 o2 o3
  have in1 : ∀ t ∈ l, X.length ≤ t.1 ∧ t.1 < X.length + Y.length := fun t ht => by
    have : t.1 ∈ (posT X.length Y).map (·.1) := by rw [← o1]; exact List.mem_map_of_mem ht
    obtain ⟨p, hp, e⟩ := List.mem_map.mp this
    have := posT_ge Y X.length p hp
    rw [← e]
    exact this
  have in2 : ∀ t ∈ l, X.length ≤ t.2.1 ∧ t.2.1 < X.length + Y.length := fun t ht => by
    have : t.2.1 ∈ A := by rw [← o2]; exact List.mem_map.mpr ⟨t, ht, rfl⟩
    exact hin _ this
  have inX : ∀ t ∈ stT (posT 0 X), t.1 < X.length ∧ t.2.1 = t.1 := fun t ht => by
    obtain ⟨p, hp, rfl⟩ := List.mem_map.mp ht
    have := posT_ge X 0 p hp
    exact ⟨by show p.1 < _; omega, rfl⟩
  have inZ : ∀ t ∈ stT (posT (X.length + Y.length) Z), X.length + Y.length ≤ t.1 ∧ t.1 < X.length + Y.length + Z.length ∧ t.2.1 = t.1 := fun t ht => by
    obtain ⟨p, hp, rfl⟩ := List.mem_map.mp ht
    have := posT_ge Z _ p hp
    exact ⟨this.1, this.2, rfl⟩
  have key := run_all (stT (posT 0 X) ++ (l ++ stT (posT (X.length + Y.length) Z))) (X ++ Y ++ Z) ?_ ?_ ?_
  · obtain ⟨s', r, h1, h2⟩ := key
    rw [onw_app, onw_app, bkw_app, bkw_app, (stT_mv _).1, (stT_mv _).2, (stT_mv _).1, (stT_mv _).2, List.append_nil, List.nil_append, List.nil_append, List.append_nil] at r
    refine ⟨s', r, ?_, h2⟩
    rw [h1]
    show at2 (stT (posT 0 X) ++ (l ++ stT (posT (X.length + Y.length) Z))) = _
    have e : ∀ a b : List Tr, at2 (a ++ b) = at2 a ++ at2 b := fun a b => List.map_append
    rw [e, e, (stT_at _).2, (stT_at _).2, List.append_assoc]
  · have e : ∀ a b : List Tr, at0 (a ++ b) = at0 a ++ at0 b := fun a b => List.map_append
    rw [e, e, (stT_at _).1, (stT_at _).1, o3, posT_app, posT_app, Nat.zero_add, Nat.zero_add, List.length_append, List.append_assoc]
  · refine up_app (stT_up (posT_sorted _ _)) (up_app hup2 (stT_up (posT_sorted _ _)) ?_) ?_
    · intro s hs t ht
      have a := in1 s hs
      have b := in2 s hs
      have c := inZ t ht
      omega
    · intro s hs t ht
      have a := inX s hs
      rcases List.mem_append.mp ht with ht | ht
      · have b := in1 t ht
        have c := in2 t ht
        omega
      · have c := inZ t ht
        omega
  · intro t ht
    rw [List.length_append, List.length_append]
    rcases List.mem_append.mp ht with ht | ht
    · have := inX t ht; omega
    · rcases List.mem_append.mp ht with ht | ht
      · have := in2 t ht; omega
      · have := inZ t ht; omega
theorem parts_eq {f g : Nat} {L M R L' M' R' : PP} (h : L ++ M ++ R = L' ++ M' ++ R') (hL : ∀ p ∈ L, p.1 < f) (hL' : ∀ p ∈ L', p.1 < f) (hM : ∀ p ∈ M, f ≤ p.1 ∧ p.1 < g) (hM' : ∀ p ∈ M', f ≤ p.1 ∧ p.1 < g) (hR : ∀ p ∈ R, g ≤ p.1) (hR' : ∀ p ∈ R', g ≤ p.1) (hfg : f ≤ g) : L = L' ∧ M = M' ∧ R = R' := by
  have cut : ∀ {L M R : PP}, (∀ p ∈ L, p.1 < f) → (∀ p ∈ M, f ≤ p.1 ∧ p.1 < g) → (∀ p ∈ R, g ≤ p.1) → (L ++ M ++ R).filter (fun p => decide (p.1 < f)) = L ∧ (L ++ M ++ R).filter (fun p => decide (f ≤ p.1) && decide (p.1 < g)) = M ∧ (L ++ M ++ R).filter (fun p => decide (g ≤ p.1)) = R := by
    intro L M R hL hM hR
    simp only [List.filter_append]
    refine ⟨?_, ?_, ?_⟩
    · rw [List.filter_eq_self.mpr fun p hp => by have := hL p hp; simp [this], List.filter_eq_nil_iff.mpr fun p hp => by have := hM p hp; simp; omega, List.filter_eq_nil_iff.mpr fun p hp => by have := hR p hp; simp; omega]
      simp
    · rw [List.filter_eq_nil_iff.mpr fun p hp => by have := hL p hp; simp; omega, List.filter_eq_self.mpr fun p hp => by have := hM p hp; simp [this], List.filter_eq_nil_iff.mpr fun p hp => by have := hR p hp; simp; omega]
      simp
    · rw [List.filter_eq_nil_iff.mpr fun p hp => by have := hL p hp; simp; omega, List.filter_eq_nil_iff.mpr fun p hp => by have := hM p hp; simp; omega, List.filter_eq_self.mpr fun p hp => by have := hR p hp; simp [this]]
      simp
  have a := cut hL hM hR
  have b := cut hL' hM' hR'
  rw [h] at a
  exact ⟨a.1.symm.trans b.1, a.2.1.symm.trans b.2.1, a.2.2.symm.trans b.2.2⟩
theorem part_eq {X Y Z s : List Thing} {M : PP} (h : posT 0 s = posT 0 X ++ M ++ posT (X.length + Y.length) Z) (hl : s.length = (X ++ Y ++ Z).length) (hM : ∀ p ∈ M, X.length ≤ p.1 ∧ p.1 < X.length + Y.length) :
    ∃ Y', s = X ++ Y' ++ Z ∧ Y'.length = Y.length ∧ posT X.length Y' = M := by
  rw [List.length_append, List.length_append] at hl
  have hs : s = s.take X.length ++ (s.drop X.length).take Y.length ++ s.drop (X.length + Y.length) := by
    rw [List.append_assoc, ← List.drop_drop, List.take_append_drop, List.take_append_drop]
  have l1 : (s.take X.length).length = X.length := by rw [List.length_take]; omega
  have l2 : ((s.drop X.length).take Y.length).length = Y.length := by rw [List.length_take, List.length_drop]; omega
  have l3 : (s.drop (X.length + Y.length)).length = Z.length := by rw [List.length_drop]; omega
  have hp := h
  rw [hs, posT_app, posT_app, Nat.zero_add, List.length_append, l1, l2, Nat.zero_add] at hp
  obtain ⟨e1, e2, e3⟩ := parts_eq (f := X.length) (g := X.length + Y.length) hp (fun p q => by have := posT_ge _ _ p q; omega) (fun p q => by have := posT_ge _ _ p q; omega) (fun p q => by have := posT_ge _ _ p q; omega) hM (fun p q => (posT_ge _ _ p q).1) (fun p q => (posT_ge _ _ p q).1) (Nat.le_add_right _ _)
  refine ⟨(s.drop X.length).take Y.length, ?_, l2, e2⟩
  have f1 := posT_inj _ _ 0 l1 e1
  have f3 := posT_inj _ _ (X.length + Y.length) l3 e3
  rw [f1, f3] at hs
  exact hs
end LL
namespace LL
open PySem L2
def aimsL (f n W : Nat) : List Nat := (List.range n).map fun i => f + tgt n W i
theorem aimsL_len (f n W : Nat) : (aimsL f n W).length = n := by simp [aimsL]
theorem aimsL_up {f n W : Nat} (hn : 0 < n) (h : n ≤ W) : (aimsL f n W).Pairwise (· < ·) := by
  unfold aimsL
  rw [List.pairwise_map]
  refine List.pairwise_lt_range.imp fun hij => ?_
  have := tgt_rise hn h hij
  omega
theorem aimsL_in {f n W : Nat} (hW : 0 < W) : ∀ a ∈ aimsL f n W, f ≤ a ∧ a < f + W := fun a ha => by
  obtain ⟨i, hi, rfl⟩ := List.mem_map.mp ha
  have := tgt_lt (n := n) (W := W) (List.mem_range.mp hi) hW
  show f ≤ f + _ ∧ f + _ < f + W
  omega
def lessN (Y : List Thing) (k : Int) : Nat := ((things Y).filter fun x => decide (x.1 < k)).length
def evL (f : Nat) (Y : List Thing) (k : Int) : List Tr := zipT (posT f Y) ((aimsL f ((things Y).length + 1) Y.length).eraseIdx (lessN Y k))
def evA (f : Nat) (Y : List Thing) (k : Int) : Nat := (aimsL f ((things Y).length + 1) Y.length).getD (lessN Y k) 0
def evM (f : Nat) (Y : List Thing) (k : Int) : List Tr := onw (evL f Y k) ++ bkw (evL f Y k)
def evW (f : Nat) (Y : List Thing) (k b : Int) : List (Nat × Thing) := wsOf (evM f Y k) ++ [(evA f Y k, some (k, b))]
theorem posT_len (Y : List Thing) (f : Nat) : (posT f Y).length = (things Y).length := by
  rw [← posT_things Y f, List.length_map]
theorem lessN_le (Y : List Thing) (k : Int) : lessN Y k ≤ (things Y).length := List.length_filter_le _ _
theorem erase_split {α : Type} (l : List α) (j : Nat) (h : j < l.length) (d : α) : l.eraseIdx j = l.take j ++ l.drop (j + 1) ∧ l = l.take j ++ l.getD j d :: l.drop (j + 1) := by
  refine ⟨List.eraseIdx_eq_take_drop_succ l j, ?_⟩
  have e : l.getD j d = l[j] := by rw [List.getD_eq_getElem?_getD, List.getElem?_eq_getElem h]; rfl
  rw [e]
  conv => lhs; rw [← List.take_append_drop j l]
  rw [List.drop_eq_getElem_cons h]
theorem evA_mem (f : Nat) (Y : List Thing) (k : Int) : evA f Y k ∈ aimsL f ((things Y).length + 1) Y.length := by
  have h := lessN_le Y k
  unfold evA
  rw [List.getD_eq_getElem?_getD, List.getElem?_eq_getElem (by rw [aimsL_len]; omega)]
  exact List.getElem_mem _
theorem less_parts {k : Int} : ∀ (T : List Pr), RiseP T → k ∉ T.map (·.1) → T = T.take ((T.filter fun x => decide (x.1 < k)).length) ++ T.drop ((T.filter fun x => decide (x.1 < k)).length) ∧ (∀ x ∈ T.take ((T.filter fun x => decide (x.1 < k)).length), x.1 < k) ∧ ∀ x ∈ T.drop ((T.filter fun x => decide (x.1 < k)).length), k < x.1
  | [], _, _ => ⟨rfl, fun x h => by simp at h, fun x h => by simp at h⟩
  | y :: T, h, hk => by
    have hp := List.pairwise_cons.mp (show ((y :: T).map (·.1)).Pairwise (· < ·) from h)
    rw [List.map_cons, List.mem_cons, not_or] at hk
    obtain ⟨i1, i2, i3⟩ := less_parts T hp.2 hk.2
    by_cases c : y.1 < k
    · rw [List.filter_cons_of_pos (by simpa using c), List.length_cons]
      refine ⟨(List.take_append_drop _ _).symm, ?_, ?_⟩
      · intro x hx
        rw [List.take_succ_cons] at hx
        rcases List.mem_cons.mp hx with rfl | hx
        · exact c
        · exact i2 x hx
      · intro x hx
        rw [List.drop_succ_cons] at hx
        exact i3 x hx
    · have c' : k < y.1 := by omega
      have hall : ∀ x ∈ T, k < x.1 := fun x hx => by
        have : y.1 < x.1 := hp.1 x.1 (List.mem_map_of_mem hx)
        omega
      have hz : (y :: T).filter (fun x => decide (x.1 < k)) = [] := List.filter_eq_nil_iff.mpr fun x hx => by
        rcases List.mem_cons.mp hx with rfl | hx
        · simp; omega
        · have := hall x hx
          simp; omega
      rw [hz]
      refine ⟨rfl, fun x hx => by simp at hx, fun x hx => ?_⟩
      rcases List.mem_cons.mp hx with rfl | hx
      · exact c'
      · exact hall x hx
theorem ev_spec {X Y Z : List Thing} {k : Int} (b : Int) (hR : Rises (X ++ Y ++ Z)) (hk : k ∉ keysOf Y) (hn : (things Y).length + 1 ≤ Y.length) :
    ∃ s' Y', Run IsMv (X ++ Y ++ Z) (evM X.length Y k) s' ∧ s'[evA X.length Y k]? = some none ∧ doneF (X ++ Y ++ Z) (evW X.length Y k b) = s'.set (evA X.length Y k) (some (k, b)) ∧ s'.set (evA X.length Y k) (some (k, b)) = X ++ Y' ++ Z ∧ Y'.length = Y.length ∧
      (posT X.length Y').map (·.1) = aimsL X.length ((things Y).length + 1) Y.length ∧ things Y' = (things Y).take (lessN Y k) ++ (k, b) :: (things Y).drop (lessN Y k) ∧ s'.length = (X ++ Y ++ Z).length := by
  have hj := lessN_le Y k
  have hlen := aimsL_len X.length ((things Y).length + 1) Y.length
  have hup := aimsL_up (f := X.length) (n := (things Y).length + 1) (W := Y.length) (by omega) hn
  have hin := aimsL_in (f := X.length) (n := (things Y).length + 1) (W := Y.length) (by omega)
  obtain ⟨es1, es2⟩ := erase_split (aimsL X.length ((things Y).length + 1) Y.length) (lessN Y k) (by omega) 0
  have hmem := evA_mem X.length Y k
  have hAdef : evA X.length Y k = (aimsL X.length ((things Y).length + 1) Y.length).getD (lessN Y k) 0 := rfl
  have hA : ((aimsL X.length ((things Y).length + 1) Y.length).eraseIdx (lessN Y k)).length = (posT X.length Y).length := by
    rw [posT_len, List.length_eraseIdx]
    rw [hlen, if_pos (by omega)]
    omega
  have hM : evM X.length Y k = onw (zipT (posT X.length Y) ((aimsL X.length ((things Y).length + 1) Y.length).eraseIdx (lessN Y k))) ++ bkw (zipT (posT X.length Y) ((aimsL X.length ((things Y).length + 1) Y.length).eraseIdx (lessN Y k))) := rfl
  obtain ⟨s', r, hp, hs⟩ := part_run (X := X) (Y := Y) (Z := Z) hA (hup.sublist (List.eraseIdx_sublist _ _)) (fun a ha => hin a ((List.eraseIdx_sublist _ _).subset ha))
  rw [← hM] at r
  rw [← hAdef] at es2
  have hfirst : doneF (X ++ Y ++ Z) (evW X.length Y k b) = s'.set (evA X.length Y k) (some (k, b)) := by
    unfold evW
    rw [doneF_app, ← r.done]
    rfl
  generalize hAe : aimsL X.length ((things Y).length + 1) Y.length = AA at *
  generalize evA X.length Y k = a at *
  generalize hje : lessN Y k = j at *
  generalize hPe : posT X.length Y = P at *
  have hPl : P.length = (things Y).length := by rw [← hPe]; exact posT_len Y _
  have hP : P = P.take j ++ P.drop j := (List.take_append_drop j P).symm
  have l1 : (AA.take j).length = (P.take j).length := by rw [List.length_take, List.length_take]; omega
  have l2 : (AA.drop (j + 1)).length = (P.drop j).length := by rw [List.length_drop, List.length_drop]; omega
  have hz : at2 (zipT P (AA.eraseIdx j)) = at2 (zipT (P.take j) (AA.take j)) ++ at2 (zipT (P.drop j) (AA.drop (j + 1))) := by
    rw [es1]
    conv => lhs; rw [hP]
    rw [zipT_app _ _ _ _ l1]
    exact List.map_append
  obtain ⟨z1, z2⟩ := zipT_at2 (P.take j) (AA.take j) l1
  obtain ⟨z3, z4⟩ := zipT_at2 (P.drop j) (AA.drop (j + 1)) l2
  have hupA := hup
  rw [es2] at hupA
  obtain ⟨u1, u2, u3⟩ := List.pairwise_append.mp hupA
  have u4 := List.pairwise_cons.mp u2
  have ain := hin a hmem
  have hins : posT 0 (s'.set a (some (k, b))) = posT 0 X ++ (at2 (zipT (P.take j) (AA.take j)) ++ (a, (k, b)) :: at2 (zipT (P.drop j) (AA.drop (j + 1)))) ++ posT (X.length + Y.length) Z := by
    have q := posT_lay s' 0 a (k, b) (by rw [hs, List.length_append, List.length_append]; omega)
    rw [Nat.zero_add, hp, hz, show posT 0 X ++ (at2 (zipT (P.take j) (AA.take j)) ++ at2 (zipT (P.drop j) (AA.drop (j + 1)))) ++ posT (X.length + Y.length) Z = (posT 0 X ++ at2 (zipT (P.take j) (AA.take j))) ++ (at2 (zipT (P.drop j) (AA.drop (j + 1))) ++ posT (X.length + Y.length) Z) by simp, insP_mid] at q
    · rw [q]
      simp
    · intro p hp
      rcases List.mem_append.mp hp with hp | hp
      · have := posT_ge X 0 p hp
        omega
      · have : p.1 ∈ AA.take j := by rw [← z1]; exact List.mem_map_of_mem hp
        exact u3 p.1 this a List.mem_cons_self
    · intro p hp
      rcases List.mem_append.mp hp with hp | hp
      · have : p.1 ∈ AA.drop (j + 1) := by rw [← z3]; exact List.mem_map_of_mem hp
        exact u4.1 p.1 this
      · have := posT_ge Z _ p hp
        omega
  obtain ⟨Y', e1, e2, e3⟩ := part_eq (X := X) (Y := Y) (Z := Z) (M := at2 (zipT (P.take j) (AA.take j)) ++ (a, (k, b)) :: at2 (zipT (P.drop j) (AA.drop (j + 1)))) hins (by rw [List.length_set]; exact hs) (by
    intro p hp
    refine hin p.1 ?_
    rw [es2]
    rcases List.mem_append.mp hp with hp | hp
    · exact List.mem_append_left _ (by rw [← z1]; exact List.mem_map_of_mem hp)
    · rcases List.mem_cons.mp hp with rfl | hp
      · exact List.mem_append_right _ List.mem_cons_self
      · exact List.mem_append_right _ (List.mem_cons_of_mem _ (by rw [← z3]; exact List.mem_map_of_mem hp)))
  refine ⟨s', Y', r, ?_, hfirst, e1, e2, ?_, ?_, hs⟩
  · have hal : a < s'.length := by rw [hs, List.length_append, List.length_append]; omega
    rw [List.getElem?_eq_getElem hal]
    cases hc : s'[a] with
    | none => rfl
    | some x =>
      exfalso
      have hm := (posT_get s' 0 a x).mp (by rw [List.getElem?_eq_getElem hal, hc])
      rw [Nat.zero_add, hp, hz] at hm
      rcases List.mem_append.mp hm with hm | hm
      · rcases List.mem_append.mp hm with hm | hm
        · have := posT_ge X 0 _ hm
          simp at this
          omega
        · rcases List.mem_append.mp hm with hm | hm
          · have : a ∈ AA.take j := by rw [← z1]; exact List.mem_map.mpr ⟨_, hm, rfl⟩
            exact Nat.lt_irrefl _ (u3 a this a List.mem_cons_self)
          · have : a ∈ AA.drop (j + 1) := by rw [← z3]; exact List.mem_map.mpr ⟨_, hm, rfl⟩
            exact Nat.lt_irrefl _ (u4.1 a this)
      · have := posT_ge Z _ _ hm
        simp at this
        omega
  · rw [e3, List.map_append, List.map_cons, z1, z3]
    exact es2.symm
  · have hT : things Y = P.map (·.2) := by rw [← hPe, posT_things]
    rw [← posT_things Y' X.length, e3, List.map_append, List.map_cons, z2, z4, hT, List.map_take, List.map_drop]
end LL
set_option maxHeartbeats 4000000
namespace LL
open PySem L2
def b_moves_of : PSt := (pSq (pSet 2 (vS (pOfL (pListZip (pCons (pVar 0) (pCons (pVar 1) pNil))))))
    (pSq (pSet 3 (vSL (pComp (pCallL gRev (pCons (pVar 2) pNil)) (bd1 0) (pTest (pOp dGt (pOp dIx (pVar 0) (pCon (.int 1))) (pOp dIx (pVar 0) (pCon (.int 0))))) (pVar 0) 1 [])))
    (pSq (pSet 4 (vSL (pComp (pItL (pVar 2)) (bd1 0) (pTest (pOp dLt (pOp dIx (pVar 0) (pCon (.int 1))) (pOp dIx (pVar 0) (pCon (.int 0))))) (pVar 0) 1 [])))
    (pRetL (pCat (pVar 3) (pVar 4))))))
def m_moves_of : List D → Option (List D) := runL 2 5 b_moves_of
def l_writes_of_1 : PSt := (pSq (pSet 6 (vS (pOfL (pLst (pCons (pTup (pCons (pVar 5) (pCons (pOp dIx (pVar 2) (pVar 4)) pNil))) (pCons (pTup (pCons (pVar 4) (pCons (pTup pNil) pNil))) pNil))))))
      (pSq (pSet 2 (vS (pOfL (pCallL m_done (pCons (pVar 2) (pCons (pVar 6) pNil))))))
      (pExt 3 (vS (pVar 6)))))
def b_writes_of : PSt := (pSq (pSet 2 (vS (pVar 0)))
    (pSq (pSet 3 (vL (pLst pNil)))
    (pSq (pFor (pItL (pVar 1)) (bs2 4 5) l_writes_of_1)
    (pRetO 3))))
def m_writes_of : List D → Option (List D) := runL 2 7 b_writes_of
def b_evening_writes : PSt := (pSq (pSet 3 (vS (pOp dIx (pVar 1) (pCon (.int 0)))))
    (pSq (pSet 4 (vS (pOp dIx (pVar 1) (pCon (.int 1)))))
    (pSq (pSet 5 (vSL (pComp (pCallL gRange2 (pCons (pVar 3) (pCons (pVar 4) pNil))) (bd1 0) (pTest (pOp dNe (pOp dIx (pVar 1) (pVar 0)) (pTup pNil))) (pVar 0) 1 [0])))
    (pSq (pSet 6 (vL (pComp (pItL (pOfL (pCallL m_targets (pCons (pOp dAdd (pCall gLen (pCons (pVar 5) pNil)) (pCon (.int 1))) (pCons (pOp dSub (pVar 4) (pVar 3)) pNil))))) (bd1 0) pTrue (pOp dAdd (pVar 1) (pVar 0)) 1 [3])))
    (pSq (pSet 7 (vSL (pComp (pItL (pVar 5)) (bd1 0) (pTest (pOp dLt (pOp dIx (pOp dIx (pVar 2) (pVar 0)) (pCon (.int 0))) (pOp dIx (pVar 1) (pCon (.int 0))))) (pVar 0) 1 [2, 0])))
    (pSq (pSetPop 8 6 (pCall gLen (pCons (pVar 7) pNil)))
    (pRetL (pCat (pOfL (pCallL m_writes_of (pCons (pVar 0) (pCons (pOfL (pCallL m_moves_of (pCons (pVar 5) (pCons (pVar 6) pNil)))) pNil)))) (pOfL (pLst (pCons (pTup (pCons (pVar 8) (pCons (pVar 2) pNil))) pNil)))))))))))
def m_evening_writes : List D → Option (List D) := runL 3 9 b_evening_writes
def b_put_writes : PSt := (pSq (pSet 5 (vS (pCall m_place_of (pCons (pVar 2) (pCons (pVar 3) pNil)))))
    (pSq (pIfS (pTest (pOp dNotN (pVar 5) (pCon .none)))
      (pRetL (pLst (pCons (pTup (pCons (pVar 5) (pCons (pTup (pCons (pVar 3) (pCons (pVar 4) pNil))) pNil))) pNil))) pNx)
    (pSq (pIfS (pTest (pOp dGe (pCall m_held (pCons (pVar 2) (pCons (pCon (.int 0)) (pCons (pCall gLen (pCons (pVar 2) pNil)) pNil)))) (pCall m_cap_of (pCons (pVar 0) (pCons (pVar 1) pNil)))))
      pNever pNx)
    (pSq (pSet 6 (vS (pCall m_height_for (pCons (pVar 0) (pCons (pVar 1) (pCons (pVar 2) (pCons (pVar 3) pNil)))))))
    (pRetL (pCallL m_evening_writes (pCons (pVar 2) (pCons (pCall m_stretch_of (pCons (pVar 0) (pCons (pVar 6) (pCons (pCall m_seat_of (pCons (pVar 2) (pCons (pVar 3) pNil))) pNil)))) (pCons (pTup (pCons (pVar 3) (pCons (pVar 4) pNil))) pNil)))))))))
def m_put_writes : List D → Option (List D) := runL 5 7 b_put_writes
def b_take_writes : PSt := (pSq (pSet 2 (vS (pCall m_place_of (pCons (pVar 0) (pCons (pVar 1) pNil)))))
    (pSq (pIfS (pTest (pOp dIsN (pVar 2) (pCon .none)))
      pNever pNx)
    (pRetL (pLst (pCons (pTup (pCons (pVar 2) (pCons (pTup pNil) pNil))) pNil)))))
def m_take_writes : List D → Option (List D) := runL 2 3 b_take_writes
theorem gRev_list (ds : List D) : gRev [.list ds] = some ds.reverse := rfl
theorem zip_mvD : ∀ l : List Tr, zipD ((l.map (·.1)).map natD) ((l.map fun t => t.2.1).map natD) = l.map mvD
  | [] => rfl
  | t :: l => congrArg (mvD t :: ·) (zip_mvD l)
theorem moves_eq (l : List Tr) (hl : l.length < 1000000) : m_moves_of [.list ((l.map (·.1)).map natD), .list ((l.map fun t => t.2.1).map natD)] = some ((onw l ++ bkw l).map mvD) := by
  have hz := zip_mvD l
  have few := few_moves l
  have c1 : ∀ a b c d : Option D, pComp (pCallL gRev (pCons (pVar 2) pNil)) (bd1 0) (pTest (pOp dGt (pOp dIx (pVar 0) (pCon (.int 1))) (pOp dIx (pVar 0) (pCon (.int 0))))) (pVar 0) 1 [] [a, b, some (.list (l.map mvD)), c, d] = some ((onw l).map mvD) := by
    intro a b c d
    rw [comp_eq (items := l.reverse.map mvD) (by rw [List.map_reverse]; have := gRev_list (l.map mvD); clear hz few; walk_at "pu") (by rw [List.length_map, List.length_reverse]; omega), compP_map mvD (fun t => decide (t.1 < t.2.1)) mvD]
    · unfold onw
      rw [List.filter_reverse]
    · intro t _
      refine ⟨[some (.tuple [.int (t.1 : Int), .int (t.2.1 : Int)])], rfl, ?_, fun _ => rfl⟩
      have e : decide (t.1 < t.2.1) = decide ((t.1 : Int) < (t.2.1 : Int)) := by simp
      rw [e]
      clear e hz few
      walk_at "pu"
  have c2 : ∀ a b c d : Option D, pComp (pItL (pVar 2)) (bd1 0) (pTest (pOp dLt (pOp dIx (pVar 0) (pCon (.int 1))) (pOp dIx (pVar 0) (pCon (.int 0))))) (pVar 0) 1 [] [a, b, some (.list (l.map mvD)), c, d] = some ((bkw l).map mvD) := by
    intro a b c d
    rw [comp_eq (items := l.map mvD) (by clear c1 hz few; walk_at "pu") (by rw [List.length_map]; omega), compP_map mvD (fun t => decide (t.2.1 < t.1)) mvD]
    · rfl
    · intro t _
      refine ⟨[some (.tuple [.int (t.1 : Int), .int (t.2.1 : Int)])], rfl, ?_, fun _ => rfl⟩
      have e : decide (t.2.1 < t.1) = decide ((t.2.1 : Int) < (t.1 : Int)) := by simp
      rw [e]
      clear e hz few c1
      walk_at "pu"
  have hfit : (onw l).length + (bkw l).length < 16777216 := by omega
  rw [List.map_append]
  generalize ((l.map (·.1)).map natD) = P at *
  generalize ((l.map fun t => t.2.1).map natD) = A at *
  refine runL_of rfl ?_
  unfold b_moves_of
  refine sq_nx (ρ' := [.sh (.list P), .sh (.list A), .sh (.list (l.map mvD)), .no, .no]) (by clear c1 c2 hfit few; unfold pListZip; walk_at "pu") ?_
  refine sq_nx (ρ' := [.sh (.list P), .sh (.list A), .sh (.list (l.map mvD)), .sh (.list ((onw l).map mvD)), .no]) ?_ ?_
  · have := c1 (some (.list P)) (some (.list A)) none none
    generalize pComp (pCallL gRev (pCons (pVar 2) pNil)) (bd1 0) (pTest (pOp dGt (pOp dIx (pVar 0) (pCon (.int 1))) (pOp dIx (pVar 0) (pCon (.int 0))))) (pVar 0) 1 [] = CC at *
    clear c1 c2 hfit few hz
    walk_at "pu"
  refine sq_nx (ρ' := [.sh (.list P), .sh (.list A), .sh (.list (l.map mvD)), .sh (.list ((onw l).map mvD)), .sh (.list ((bkw l).map mvD))]) ?_ ?_
  · have := c2 (some (.list P)) (some (.list A)) (some (.list ((onw l).map mvD))) none
    generalize pComp (pItL (pVar 2)) (bd1 0) (pTest (pOp dLt (pOp dIx (pVar 0) (pCon (.int 1))) (pOp dIx (pVar 0) (pCon (.int 0))))) (pVar 0) 1 [] = CC at *
    clear c1 c2 hfit few hz
    walk_at "pu"
  · clear c1 c2 few hz
    walk_at "pu"
theorem writes_eq {ts s' : List Thing} {ms : List Tr} (r : Run IsMv ts ms s') (hm : ms.length ≤ 1000000) : m_writes_of [.list (ts.map encD), .list (ms.map mvD)] = some ((wsOf ms).map encW) := by
  have loop := for_pre (bs := bs2 4 5) (F := l_writes_of_1) mvD (fun pre ρ => ∃ s4 s5 s6, ρ = [.sh (.list (ts.map encD)), .sh (.list (ms.map mvD)), .sh (.list ((doneF ts (wsOf pre)).map encD)), .ow ((wsOf pre).map encW), s4, s5, s6]) ms ?_ [.sh (.list (ts.map encD)), .sh (.list (ms.map mvD)), .sh (.list (ts.map encD)), .ow [], .no, .no, .no] ⟨_, _, _, rfl⟩
  · obtain ⟨ρ', hf, s4, s5, s6, rfl⟩ := loop
    refine runL_of rfl ?_
    unfold b_writes_of
    refine sq_nx (ρ' := [.sh (.list (ts.map encD)), .sh (.list (ms.map mvD)), .sh (.list (ts.map encD)), .no, .no, .no, .no]) (by clear hf; walk_at "pu") ?_
    refine sq_nx (ρ' := [.sh (.list (ts.map encD)), .sh (.list (ms.map mvD)), .sh (.list (ts.map encD)), .ow [], .no, .no, .no]) (by clear hf; walk_at "pu") ?_
    refine sq_nx ((for_eq (items := ms.map mvD) (by clear hf; walk_at "pu")).trans hf) (by clear hf; walk_at "pu")
  · rintro pre t post ρ e ⟨s4, s5, s6, rfl⟩
    have hp : IsMv (doneF ts (wsOf pre)) t := by
      rw [e] at r
      exact r.mid
    have hlen : (wsOf pre).length + 2 < 16777216 := by
      have := congrArg List.length e
      simp at this
      rw [wsOf_len]
      omega
    obtain ⟨L, R, mv⟩ := hp
    have here : (doneF ts (wsOf pre))[t.1]? = some (some t.2.2) := (posT_get _ 0 t.1 t.2.2).mpr (by rw [Nat.zero_add, mv.eq]; simp)
    have hlt : t.1 < (doneF ts (wsOf pre)).length := by
      obtain ⟨h, _⟩ := List.getElem?_eq_some_iff.mp here
      exact h
    have hat : atI ((doneF ts (wsOf pre)).map encD) (t.1 : Int) = some (.tuple [.int t.2.2.1, .int t.2.2.2]) := by
      rw [atI_ofNat, List.getElem?_map, here]
      rfl
    have hd := done_eq (doneF ts (wsOf pre)) [(t.2.1, some t.2.2), (t.1, none)] (by
      intro q hq
      simp only [List.mem_cons, List.not_mem_nil, or_false] at hq
      rcases hq with rfl | rfl
      · exact mv.lt
      · exact hlt)
    rw [← doneF_app, ← wsOf_snoc] at hd
    have hd' : m_done [.list ((doneF ts (wsOf pre)).map encD), .list [.tuple [.int (t.2.1 : Int), .tuple [.int t.2.2.1, .int t.2.2.2]], .tuple [.int (t.1 : Int), .tuple []]]] = some ((doneF ts (wsOf (pre ++ [t]))).map encD) := hd
    have hsn : (wsOf (pre ++ [t])).map encW = (wsOf pre).map encW ++ [.tuple [.int (t.2.1 : Int), .tuple [.int t.2.2.1, .int t.2.2.2]], .tuple [.int (t.1 : Int), .tuple []]] := by
      rw [wsOf_snoc, List.map_append]
      rfl
    refine ⟨_, [.sh (.list (ts.map encD)), .sh (.list (ms.map mvD)), .sh (.list ((doneF ts (wsOf (pre ++ [t]))).map encD)), .ow ((wsOf (pre ++ [t])).map encW), .sh (.int (t.1 : Int)), .sh (.int (t.2.1 : Int)), .sh (.list [.tuple [.int (t.2.1 : Int), .tuple [.int t.2.2.1, .int t.2.2.2]], .tuple [.int (t.1 : Int), .tuple []]])], rfl, ?_, _, _, _, rfl⟩
    rw [hsn]
    clear hsn hd e hlt here mv r hm
    generalize (doneF ts (wsOf pre)).map encD = U at *
    generalize (doneF ts (wsOf (pre ++ [t]))).map encD = U' at *
    unfold l_writes_of_1
    refine sq_nx (ρ' := [.sh (.list (ts.map encD)), .sh (.list (ms.map mvD)), .sh (.list U), .ow ((wsOf pre).map encW), .sh (.int (t.1 : Int)), .sh (.int (t.2.1 : Int)), .sh (.list [.tuple [.int (t.2.1 : Int), .tuple [.int t.2.2.1, .int t.2.2.2]], .tuple [.int (t.1 : Int), .tuple []]])]) (by clear hd' hlen; walk_at "pu") ?_
    refine sq_nx (ρ' := [.sh (.list (ts.map encD)), .sh (.list (ms.map mvD)), .sh (.list U'), .ow ((wsOf pre).map encW), .sh (.int (t.1 : Int)), .sh (.int (t.2.1 : Int)), .sh (.list [.tuple [.int (t.2.1 : Int), .tuple [.int t.2.2.1, .int t.2.2.2]], .tuple [.int (t.1 : Int), .tuple []]])]) (by clear hlen hat; walk_at "pu") ?_
    clear hd' hat
    unfold pExt
    walk_at "pu"
theorem rangeD_nat (f W : Nat) : rangeD (f : Int) W = (List.range' f W).map natD := by
  unfold rangeD
  rw [List.range'_eq_map_range, List.map_map]
  refine List.map_congr_left fun i _ => ?_
  show _ = PyData.int ((f + i : Nat) : Int)
  rw [Int.natCast_add]
theorem mid_get {X Y Z : List Thing} {i : Nat} (h1 : X.length ≤ i) (h2 : i < X.length + Y.length) : (X ++ Y ++ Z).getD i none = Y.getD (i - X.length) none := by
  rw [List.getD_eq_getElem?_getD, List.getD_eq_getElem?_getD, List.append_assoc, List.getElem?_append_right h1, List.getElem?_append_left (by omega)]
theorem places_of_part {X Y Z : List Thing} (hl : (X ++ Y ++ Z).length ≤ 320) (a1 a2 a5 a6 a7 a8 : Option D) :
    pComp (pCallL gRange2 (pCons (pVar 3) (pCons (pVar 4) pNil))) (bd1 0) (pTest (pOp dNe (pOp dIx (pVar 1) (pVar 0)) (pTup pNil))) (pVar 0) 1 [0] [some (.list ((X ++ Y ++ Z).map encD)), a1, a2, some (.int (X.length : Int)), some (.int ((X.length + Y.length : Nat) : Int)), a5, a6, a7, a8] = some (((posT X.length Y).map (·.1)).map natD) := by
  have hll := hl
  rw [List.length_append, List.length_append] at hll
  have hr := gRange2_int (X.length : Int) ((X.length + Y.length : Nat) : Int) ⟨by omega, by omega, by omega, by omega⟩
  rw [show (((X.length + Y.length : Nat) : Int) - (X.length : Int)).toNat = Y.length by omega, rangeD_nat] at hr
  rw [comp_eq (items := (List.range' X.length Y.length).map natD) (by clear hl hll; walk_at "pu") (by rw [List.length_map, List.length_range']; omega), compP_map natD (fun i => full' ((X ++ Y ++ Z).getD i none)) natD]
  · rw [← range_pos]
    refine congrArg (fun l => some (List.map natD l)) (List.filter_congr fun i hi => ?_)
    have := List.mem_range'_1.mp hi
    rw [mid_get this.1 this.2]
  · intro i hi
    have := List.mem_range'_1.mp hi
    have ha := at_ts (X ++ Y ++ Z) (i := i) (by rw [List.length_append, List.length_append]; omega)
    have e3 : full' ((X ++ Y ++ Z).getD i none) = !decide ((X ++ Y ++ Z).getD i none = none) := rfl
    refine ⟨[some (.int (i : Int)), some (.list ((X ++ Y ++ Z).map encD))], rfl, ?_, fun _ => rfl⟩
    rw [e3]
    generalize (X ++ Y ++ Z).getD i none = u at *
    clear hr hi this hl hll e3
    walk_at "pu"
theorem aims_of_part {n W f : Nat} (hn : 0 < n) (hn2 : n ≤ 320) (a0 a1 a2 a4 a6 a7 a8 : Option D) {L : List D} (hL : (L.length : Int) + 1 = (n : Int)) {e : Int} (he : e - (f : Int) = (W : Int)) :
    pComp (pItL (pOfL (pCallL m_targets (pCons (pOp dAdd (pCall gLen (pCons (pVar 5) pNil)) (pCon (.int 1))) (pCons (pOp dSub (pVar 4) (pVar 3)) pNil))))) (bd1 0) pTrue (pOp dAdd (pVar 1) (pVar 0)) 1 [3] [a0, a1, a2, some (.int (f : Int)), some (.int e), some (.list L), a6, a7, a8] = some ((aimsL f n W).map natD) := by
  have ht := targets_eq (n := n) (W := W) hn (by omega)
  rw [comp_eq (items := (List.range n).map fun i : Nat => .int (tgt n W i : Int)) ?_ (by rw [List.length_map, List.length_range]; omega), compP_mapT (fun i : Nat => (.int (tgt n W i : Int) : D)) (fun i => natD (f + tgt n W i))]
  · unfold aimsL
    rw [List.map_map]
    rfl
  · intro i _
    refine ⟨[some (.int (tgt n W i : Int)), some (.int (f : Int))], rfl, ?_⟩
    have e2 : natD (f + tgt n W i) = .int ((f : Int) + (tgt n W i : Int)) := by unfold natD; rw [Int.natCast_add]
    rw [e2]
    clear ht e2 hL he hn2
    walk_at "pu"
  · have ht' : m_targets [.int (n : Int), .int (W : Int)] = some ((List.range n).map fun i : Nat => .int (tgt n W i : Int)) := ht
    generalize ((List.range n).map fun i : Nat => (.int (tgt n W i : Int) : D)) = I at *
    clear ht hn2
    walk_at "pu"
theorem lesser_of_part {X Y Z : List Thing} {k b : Int} (hl : (X ++ Y ++ Z).length ≤ 320) (a1 a3 a4 a6 a7 a8 : Option D) :
    pComp (pItL (pVar 5)) (bd1 0) (pTest (pOp dLt (pOp dIx (pOp dIx (pVar 2) (pVar 0)) (pCon (.int 0))) (pOp dIx (pVar 1) (pCon (.int 0))))) (pVar 0) 1 [2, 0] [some (.list ((X ++ Y ++ Z).map encD)), a1, some (.tuple [.int k, .int b]), a3, a4, some (.list (((posT X.length Y).map (·.1)).map natD)), a6, a7, a8] =
      some (((posT X.length Y).filter fun p => decide (p.2.1 < k)).map fun p => natD p.1) := by
  have hll := hl
  rw [List.length_append, List.length_append] at hll
  have hpl : (posT X.length Y).length ≤ Y.length := by
    rw [posT_len]
    exact List.length_filterMap_le _ _
  rw [comp_eq (items := (posT X.length Y).map fun p => natD p.1) (by rw [List.map_map]; clear hll hl hpl; walk_at "pu"; rfl) (by rw [List.length_map]; omega), compP_map (fun p : Nat × Pr => natD p.1) (fun p => decide (p.2.1 < k)) (fun p => natD p.1)]
  intro p hp
  have hat : atI ((X ++ Y ++ Z).map encD) (p.1 : Int) = some (.tuple [.int p.2.1, .int p.2.2]) := by
    have : (X ++ Y ++ Z)[p.1]? = some (some p.2) := (posT_get _ 0 p.1 p.2).mpr (by
      rw [Nat.zero_add, posT_app, posT_app, Nat.zero_add]
      exact List.mem_append_left _ (List.mem_append_right _ hp))
    rw [atI_ofNat, List.getElem?_map, this]
    rfl
  refine ⟨[some (.int (p.1 : Int)), some (.tuple [.int k, .int b]), some (.list ((X ++ Y ++ Z).map encD))], rfl, ?_, fun _ => rfl⟩
  clear hp hll hl hpl
  walk_at "pu"
theorem less_len (Y : List Thing) (f : Nat) (k : Int) : ((posT f Y).filter fun p => decide (p.2.1 < k)).length = lessN Y k := by
  unfold lessN
  rw [← posT_things Y f, List.filter_map, List.length_map]
  rfl
theorem evening_eq {X Y Z : List Thing} {k : Int} (b : Int) (hl : (X ++ Y ++ Z).length ≤ 320) (hR : Rises (X ++ Y ++ Z)) (hk : k ∉ keysOf Y) (hn : (things Y).length + 1 ≤ Y.length) :
    m_evening_writes [.list ((X ++ Y ++ Z).map encD), .tuple [.int (X.length : Int), .int ((X.length + Y.length : Nat) : Int)], .tuple [.int k, .int b]] = some ((evW X.length Y k b).map encW) := by
  obtain ⟨s', Y', r, _⟩ := ev_spec (X := X) (Z := Z) b hR hk hn
  have hll := hl
  rw [List.length_append, List.length_append] at hll
  have hj := lessN_le Y k
  have hA : ((aimsL X.length ((things Y).length + 1) Y.length).eraseIdx (lessN Y k)).length = (posT X.length Y).length := by
    rw [posT_len, List.length_eraseIdx, aimsL_len, if_pos (by omega)]
    omega
  obtain ⟨o1, o2, _⟩ := zipT_ok (posT X.length Y) _ hA
  have hzl := zipT_len (posT X.length Y) _ hA
  have hpl := posT_len Y X.length
  have few := few_moves (evL X.length Y k)
  have hel : (evL X.length Y k).length = (things Y).length := hzl.trans hpl
  have hmv := moves_eq (evL X.length Y k) (by omega)
  have hml : (evM X.length Y k).length ≤ 320 := by
    unfold evM
    rw [List.length_append]
    omega
  have hws := writes_eq r (by omega)
  have p1 := places_of_part (X := X) (Y := Y) (Z := Z) hl (some (.tuple [.int (X.length : Int), .int ((X.length + Y.length : Nat) : Int)])) (some (.tuple [.int k, .int b])) none none none none
  have p2 := aims_of_part (n := (things Y).length + 1) (W := Y.length) (f := X.length) (by omega) (by omega) (some (.list ((X ++ Y ++ Z).map encD))) (some (.tuple [.int (X.length : Int), .int ((X.length + Y.length : Nat) : Int)])) (some (.tuple [.int k, .int b])) none none none none (L := ((posT X.length Y).map (·.1)).map natD) (by rw [List.length_map, List.length_map, hpl]; omega) (e := ((X.length + Y.length : Nat) : Int)) (by omega)
  have p3 := lesser_of_part (X := X) (Y := Y) (Z := Z) (k := k) (b := b) hl (some (.tuple [.int (X.length : Int), .int ((X.length + Y.length : Nat) : Int)])) (some (.int (X.length : Int))) (some (.int ((X.length + Y.length : Nat) : Int))) none none none
  have hlen3 : (((posT X.length Y).filter fun p => decide (p.2.1 < k)).map fun p => natD p.1).length = lessN Y k := by rw [List.length_map]; exact less_len Y X.length k
  have hget : ((aimsL X.length ((things Y).length + 1) Y.length).map natD)[lessN Y k]? = some (.int (evA X.length Y k : Int)) := by
    unfold evA
    rw [List.getElem?_map, List.getD_eq_getElem?_getD, List.getElem?_eq_getElem (by rw [aimsL_len]; omega)]
    rfl
  have her : ((aimsL X.length ((things Y).length + 1) Y.length).map natD).eraseIdx (lessN Y k) = ((evL X.length Y k).map fun t => t.2.1).map natD := by
    rw [erase_map]
    exact congrArg (List.map natD) o2.symm
  have hpm : ((posT X.length Y).map (·.1)).map natD = ((evL X.length Y k).map (·.1)).map natD := congrArg (List.map natD) o1.symm
  have halen : ((aimsL X.length ((things Y).length + 1) Y.length).map natD).length < 16777216 := by rw [List.length_map, aimsL_len]; omega
  have hwl : ((wsOf (evM X.length Y k)).map encW).length + 1 < 16777216 := by rw [List.length_map, wsOf_len]; omega
  have hfin : (evW X.length Y k b).map encW = (wsOf (evM X.length Y k)).map encW ++ [.tuple [.int (evA X.length Y k : Int), .tuple [.int k, .int b]]] := by
    unfold evW
    rw [List.map_append]
    rfl
  have hmv' : m_moves_of [.list (((posT X.length Y).map (·.1)).map natD), .list (((aimsL X.length ((things Y).length + 1) Y.length).map natD).eraseIdx (lessN Y k))] = some ((evM X.length Y k).map mvD) := by
    rw [her, hpm]
    exact hmv
  rw [hfin]
  clear hfin hmv hpm her few hel hzl o1 o2 hA hml hpl hR hk hn r
  generalize (X ++ Y ++ Z).map encD = S at *
  generalize ((posT X.length Y).map (·.1)).map natD = P at *
  generalize (aimsL X.length ((things Y).length + 1) Y.length).map natD = A at *
  generalize (((posT X.length Y).filter fun p => decide (p.2.1 < k)).map fun p => natD p.1) = Q at *
  generalize (wsOf (evM X.length Y k)).map encW = Ws at *
  generalize (evM X.length Y k).map mvD = Ms at *
  generalize ((X.length + Y.length : Nat) : Int) = e at *
  generalize (X.length : Int) = f at *
  generalize (evA X.length Y k : Int) = a at *
  generalize lessN Y k = j at *
  refine runL_of rfl ?_
  unfold b_evening_writes
  refine sq_nx (ρ' := [.sh (.list S), .sh (.tuple [.int f, .int e]), .sh (.tuple [.int k, .int b]), .sh (.int f), .no, .no, .no, .no, .no]) (by clear p1 p2 p3 hmv' hws hget hll hl; walk_at "pu") ?_
  refine sq_nx (ρ' := [.sh (.list S), .sh (.tuple [.int f, .int e]), .sh (.tuple [.int k, .int b]), .sh (.int f), .sh (.int e), .no, .no, .no, .no]) (by clear p1 p2 p3 hmv' hws hget hll hl; walk_at "pu") ?_
  refine sq_nx (ρ' := [.sh (.list S), .sh (.tuple [.int f, .int e]), .sh (.tuple [.int k, .int b]), .sh (.int f), .sh (.int e), .sh (.list P), .no, .no, .no]) ?_ ?_
  · generalize pComp (pCallL gRange2 (pCons (pVar 3) (pCons (pVar 4) pNil))) (bd1 0) (pTest (pOp dNe (pOp dIx (pVar 1) (pVar 0)) (pTup pNil))) (pVar 0) 1 [0] = CC at *
    clear p2 p3 hmv' hws hget hll hl
    walk_at "pu"
  refine sq_nx (ρ' := [.sh (.list S), .sh (.tuple [.int f, .int e]), .sh (.tuple [.int k, .int b]), .sh (.int f), .sh (.int e), .sh (.list P), .ow A, .no, .no]) ?_ ?_
  · generalize pComp (pItL (pOfL (pCallL m_targets (pCons (pOp dAdd (pCall gLen (pCons (pVar 5) pNil)) (pCon (.int 1))) (pCons (pOp dSub (pVar 4) (pVar 3)) pNil))))) (bd1 0) pTrue (pOp dAdd (pVar 1) (pVar 0)) 1 [3] = CC at *
    clear p1 p3 hmv' hws hget hll hl
    walk_at "pu"
  refine sq_nx (ρ' := [.sh (.list S), .sh (.tuple [.int f, .int e]), .sh (.tuple [.int k, .int b]), .sh (.int f), .sh (.int e), .sh (.list P), .ow A, .sh (.list Q), .no]) ?_ ?_
  · generalize pComp (pItL (pVar 5)) (bd1 0) (pTest (pOp dLt (pOp dIx (pOp dIx (pVar 2) (pVar 0)) (pCon (.int 0))) (pOp dIx (pVar 1) (pCon (.int 0))))) (pVar 0) 1 [2, 0] = CC at *
    clear p1 p2 hmv' hws hget hll hl
    walk_at "pu"
  refine sq_nx (ρ' := [.sh (.list S), .sh (.tuple [.int f, .int e]), .sh (.tuple [.int k, .int b]), .sh (.int f), .sh (.int e), .sh (.list P), .ow (A.eraseIdx j), .sh (.list Q), .sh (.int a)]) ?_ ?_
  · have hj0 : 0 ≤ (j : Int) := Int.natCast_nonneg _
    have hjn : ((j : Int)).toNat = j := Int.toNat_natCast j
    clear p1 p2 p3 hmv' hws hll hl hwl hj
    unfold pSetPop
    rw [← hlen3] at *
    walk_at "pu"
  · clear p1 p2 p3 hget hll hl halen hj hlen3
    walk_at "pu"
theorem put_there {ts : List Thing} {B : D} {hh k b : Int} {p : Nat} (h : placeF k 0 ts = some p) : m_put_writes [B, .int hh, .list (ts.map encD), .int k, .int b] = some ([(p, some (k, b))].map encW) := by
  have hp := place_eq ts k
  rw [h] at hp
  have hp' : m_place_of [.list (ts.map encD), .int k] = some (.int (p : Int)) := hp
  refine runL_of rfl ?_
  unfold b_put_writes
  refine sq_nx (ρ' := [.sh B, .sh (.int hh), .sh (.list (ts.map encD)), .sh (.int k), .sh (.int b), .sh (.int (p : Int)), .no]) (by clear hp; walk_at "pu") ?_
  refine sq_rl ?_
  clear hp hp' h
  walk_at "pu"
  rfl
theorem take_there {ts : List Thing} {k : Int} {p : Nat} (h : placeF k 0 ts = some p) : m_take_writes [.list (ts.map encD), .int k] = some ([(p, none)].map encW) := by
  have hp := place_eq ts k
  rw [h] at hp
  have hp' : m_place_of [.list (ts.map encD), .int k] = some (.int (p : Int)) := hp
  refine runL_of rfl ?_
  unfold b_take_writes
  refine sq_nx (ρ' := [.sh (.list (ts.map encD)), .sh (.int k), .sh (.int (p : Int))]) (by clear hp; walk_at "pu") ?_
  refine sq_nx (ρ' := [.sh (.list (ts.map encD)), .sh (.int k), .sh (.int (p : Int))]) (by clear hp hp' h; walk_at "pu") ?_
  clear hp hp' h
  walk_at "pu"
  rfl
theorem stretch_cut {ts : List Thing} {w hh h s : Nat} (w1 : 1 ≤ w) (hlen : ts.length = 2 ^ hh * w) (hle : h ≤ hh) (hs : s < ts.length) : ∃ X Y Z, ts = X ++ Y ++ Z ∧ X.length = beg w s h ∧ Y.length = 2 ^ h * w ∧ beg w s h ≤ s ∧ s < beg w s h + 2 ^ h * w := by
  have hq : ts.length = 2 ^ (hh - h) * (2 ^ h * w) := by
    rw [hlen, ← Nat.mul_assoc, ← Nat.pow_add, show hh - h + h = hh by omega]
  have hz : 0 < 2 ^ h * w := Nat.mul_pos (Nat.pow_pos (by decide)) w1
  unfold beg
  generalize 2 ^ h * w = Z at *
  generalize 2 ^ (hh - h) = q at *
  have hd : s / Z < q := by
    rw [Nat.div_lt_iff_lt_mul hz]
    omega
  have h1 : s / Z * Z ≤ s := Nat.div_mul_le_self s Z
  have h2 : s < s / Z * Z + Z := by
    have := Nat.lt_succ_iff.mp (Nat.lt_succ_of_lt (Nat.mod_lt s hz))
    have e := Nat.div_add_mod s Z
    rw [Nat.mul_comm] at e
    have := Nat.mod_lt s hz
    omega
  have h3 : s / Z * Z + Z ≤ ts.length := by
    rw [hq, ← Nat.succ_mul]
    exact Nat.mul_le_mul_right Z hd
  refine ⟨ts.take (s / Z * Z), (ts.drop (s / Z * Z)).take Z, ts.drop (s / Z * Z + Z), ?_, ?_, ?_, h1, h2⟩
  · rw [List.append_assoc, ← List.drop_drop, List.take_append_drop, List.take_append_drop]
  · rw [List.length_take]; omega
  · rw [List.length_take, List.length_drop]; omega
theorem cnt_cut (X Y Z : List Thing) : cnt (X ++ Y ++ Z) X.length (X.length + Y.length) = (things Y).length := by
  unfold cnt
  rw [List.append_assoc, List.drop_left, show X.length + Y.length - X.length = Y.length by omega, List.take_left]
theorem room_of {X Y Z : List Thing} {w st s h : Nat} (h1 : X.length = beg w s h) (h2 : Y.length = 2 ^ h * w) (hr : roomy (X ++ Y ++ Z) w st s h) : (things Y).length + 1 ≤ Y.length := by
  unfold roomy at hr
  rw [← h1, ← h2, cnt_cut] at hr
  have e : (2 : Int) ^ h * ((w : Int) - (h : Int) * (st : Int)) ≤ ((2 ^ h * w : Nat) : Int) := by
    rw [Int.natCast_mul, Int.natCast_pow]
    refine Int.mul_le_mul_of_nonneg_left ?_ (Int.pow_nonneg (by decide))
    have : 0 ≤ (h : Int) * (st : Int) := Int.mul_nonneg (by omega) (by omega)
    omega
  omega
theorem put_new {X Y Z : List Thing} {t : Int} {w st hh h : Nat} {k : Int} (b : Int) (w1 : 1 ≤ w) (w20 : w ≤ 20) (st20 : st ≤ 20) (h4 : hh ≤ 4) (hlen : (X ++ Y ++ Z).length = 2 ^ hh * w) (hR : Rises (X ++ Y ++ Z)) (hk : k ∉ keysOf (X ++ Y ++ Z))
    (hc : ((keysOf (X ++ Y ++ Z)).length : Int) < 2 ^ hh * ((w : Int) - hh * st)) (hle : h ≤ hh) (hr : roomy (X ++ Y ++ Z) w st (seatN (X ++ Y ++ Z) k (X ++ Y ++ Z).length) h) (hno : ∀ l, l < h → ¬ roomy (X ++ Y ++ Z) w st (seatN (X ++ Y ++ Z) k (X ++ Y ++ Z).length) l)
    (h1 : X.length = beg w (seatN (X ++ Y ++ Z) k (X ++ Y ++ Z).length) h) (h2 : Y.length = 2 ^ h * w) :
    m_put_writes [.tuple [.int t, .int (w : Int), .int (st : Int)], .int (hh : Int), .list ((X ++ Y ++ Z).map encD), .int k, .int b] = some ((evW X.length Y k b).map encW) := by
  have hz := pw_ok h4 w1 w20
  have hn := room_of h1 h2 hr
  have hkY : k ∉ keysOf Y := fun q => hk (by rw [keysOf_app, keysOf_app]; exact List.mem_append_left _ (List.mem_append_right _ q))
  have hev := evening_eq (X := X) (Y := Y) (Z := Z) b (by omega) hR hkY hn
  have hp := place_eq (X ++ Y ++ Z) k
  rw [(placeF_none (k := k) (X ++ Y ++ Z) 0).mpr hk] at hp
  have hp' : m_place_of [.list ((X ++ Y ++ Z).map encD), .int k] = some .none := hp
  have hheld := held_eq (X ++ Y ++ Z) (by omega) 0 (X ++ Y ++ Z).length
  rw [cnt_all, show ((0 : Nat) : Int) = 0 from rfl] at hheld
  have hcap := cap_eq (t := t) (w := w) (st := st) (h := hh) h4 st20
  have hcl : (keysOf (X ++ Y ++ Z)).length = (things (X ++ Y ++ Z)).length := by rw [keysOf_things, List.length_map]
  rw [hcl] at hc
  have hnot : ¬ (2 : Int) ^ hh * ((w : Int) - (hh : Int) * (st : Int)) ≤ ((things (X ++ Y ++ Z)).length : Int) := by omega
  have hhe := height_eq (X ++ Y ++ Z) t w st hh k h w1 w20 st20 h4 hlen hle hr hno
  have hse := seat_eq (X ++ Y ++ Z) (by omega) k
  have hst := stretch_eq (t := t) (w := w) (st := st) (h := h) (p := seatN (X ++ Y ++ Z) k (X ++ Y ++ Z).length) (by omega) w1 w20
  rw [← h1, ← h2] at hst
  have hl3 : ((X ++ Y ++ Z).map encD).length = (X ++ Y ++ Z).length := List.length_map _
  clear hp hkY hn hk hR hr hno h1 h2 hc hcl hle h4 st20 w1 w20 hz hlen
  generalize (evW X.length Y k b).map encW = Ws at *
  generalize (2 : Int) ^ hh * ((w : Int) - (hh : Int) * (st : Int)) = C at *
  generalize seatN (X ++ Y ++ Z) k (X ++ Y ++ Z).length = s at *
  generalize ((X.length + Y.length : Nat) : Int) = e at *
  generalize (X.length : Int) = f at *
  generalize ((things (X ++ Y ++ Z)).length : Int) = n at *
  generalize (X ++ Y ++ Z).length = len at *
  generalize (X ++ Y ++ Z).map encD = S at *
  generalize hB : (PyData.tuple [.int t, .int (w : Int), .int (st : Int)] : D) = B at *
  refine runL_of rfl ?_
  unfold b_put_writes
  refine sq_nx (ρ' := [.sh B, .sh (.int (hh : Int)), .sh (.list S), .sh (.int k), .sh (.int b), .sh .none, .no]) (by clear hev hheld hcap hnot hhe hse hst hl3 hB; walk_at "pu") ?_
  refine sq_nx (ρ' := [.sh B, .sh (.int (hh : Int)), .sh (.list S), .sh (.int k), .sh (.int b), .sh .none, .no]) (by clear hev hheld hcap hnot hhe hse hst hl3 hp' hB; walk_at "pu") ?_
  refine sq_nx (ρ' := [.sh B, .sh (.int (hh : Int)), .sh (.list S), .sh (.int k), .sh (.int b), .sh .none, .no]) (by clear hev hhe hse hst hp' hB; walk_at "pu") ?_
  refine sq_nx (ρ' := [.sh B, .sh (.int (hh : Int)), .sh (.list S), .sh (.int k), .sh (.int b), .sh .none, .sh (.int (h : Int))]) (by clear hev hheld hcap hnot hse hst hl3 hp' hB; walk_at "pu") ?_
  clear hheld hcap hnot hhe hp' hl3 hB
  walk_at "pu"
theorem bd_nat {t : Int} {w st hh : Nat} (bd : Bd t (w : Int) (st : Int)) (ht : (hh : Int) ≤ t) : 1 ≤ w ∧ w ≤ 20 ∧ st ≤ 20 ∧ 1 ≤ st ∧ hh ≤ 4 := by
  have a := bd.w1
  have b := bd.hi
  have c := bd.t4
  have d := bd.t0
  have e := bd.s1
  have f := bd.lo
  have g : (st : Int) * 1 ≤ st * (t + 2) := Int.mul_le_mul_of_nonneg_left (by omega) (by omega)
  omega
theorem put_spec (ts : List Thing) (t : Int) (w st hh : Nat) (k b : Int) (h : Nat) (bd : Bd t (w : Int) (st : Int)) (ht : (hh : Int) ≤ t) (hlen : ts.length = 2 ^ hh * w) (hR : Rises ts) (hk : k ∉ keysOf ts) (hc : ((keysOf ts).length : Int) < 2 ^ hh * ((w : Int) - hh * st)) (hle : h ≤ hh)
    (hr : roomy ts w st (seatN ts k ts.length) h) (hno : ∀ l, l < h → ¬ roomy ts w st (seatN ts k ts.length) l) :
    ∃ X Y Z Y' s', ts = X ++ Y ++ Z ∧ X.length = beg w (seatN ts k ts.length) h ∧ Y.length = 2 ^ h * w ∧ Y'.length = Y.length ∧ m_put_writes [.tuple [.int t, .int (w : Int), .int (st : Int)], .int (hh : Int), .list (ts.map encD), .int k, .int b] = some ((evW X.length Y k b).map encW) ∧
      Run IsMv ts (evM X.length Y k) s' ∧ s'.length = ts.length ∧ s'[evA X.length Y k]? = some none ∧ doneF ts (evW X.length Y k b) = s'.set (evA X.length Y k) (some (k, b)) ∧ doneF ts (evW X.length Y k b) = X ++ Y' ++ Z ∧ (posT X.length Y').map (·.1) = aimsL X.length ((things Y).length + 1) Y.length ∧
      things Y' = (things Y).take (lessN Y k) ++ (k, b) :: (things Y).drop (lessN Y k) ∧ (things Y).length + 1 ≤ Y.length ∧ (evM X.length Y k).length ≤ (things Y).length ∧ evA X.length Y k < ts.length := by
  obtain ⟨w1, w20, st20, s1, h4⟩ := bd_nat bd ht
  have hz := pw_ok h4 w1 w20
  have hs := seatN_le ts k ts.length
  obtain ⟨X, Y, Z, e1, e2, e3, e4, e5⟩ := stretch_cut (h := h) w1 hlen hle (s := seatN ts k ts.length) (by omega)
  generalize hse : seatN ts k ts.length = s at *
  subst e1
  have hn := room_of e2 e3 hr
  have hkY : k ∉ keysOf Y := fun q => hk (by rw [keysOf_app, keysOf_app]; exact List.mem_append_left _ (List.mem_append_right _ q))
  subst hse
  have hput := put_new (X := X) (Y := Y) (Z := Z) (t := t) b w1 w20 st20 h4 hlen hR hk hc hle hr hno e2 e3
  obtain ⟨s', Y', r, hfree, hd, hd2, hl, hp, hth, hsl⟩ := ev_spec (X := X) (Z := Z) b hR hkY hn
  have hA : ((aimsL X.length ((things Y).length + 1) Y.length).eraseIdx (lessN Y k)).length = (posT X.length Y).length := by
    have hj := lessN_le Y k
    rw [posT_len, List.length_eraseIdx, aimsL_len, if_pos (by omega)]
    omega
  have hzl := zipT_len (posT X.length Y) _ hA
  have few := few_moves (evL X.length Y k)
  have hel : (evL X.length Y k).length = (things Y).length := hzl.trans (posT_len Y _)
  have hin := aimsL_in (f := X.length) (n := (things Y).length + 1) (W := Y.length) (by omega) _ (evA_mem X.length Y k)
  refine ⟨X, Y, Z, Y', s', rfl, e2, e3, hl, hput, r, hsl, hfree, hd, hd.trans hd2, hp, hth, hn, ?_, ?_⟩
  · unfold evM
    rw [List.length_append]
    omega
  · rw [List.length_append, List.length_append]
    omega
end LL
set_option maxHeartbeats 4000000
namespace L2
open PySem PySem.Spec PyProof.Rows
section
variable {X : Cx} {x : Str} {C : Addr} {e₀ : Expr} {rest : List Expr} {t : TA} {np cpos pos : Pos}
end
def CXE (P : Program) (w : World) : CXT := fun outer H s E e s' => ∃ (a t : Addr) (cls : Value) (B : Heap) (H' : Hp), e = .ref a ∧ s'.os = s.os ∧ AllBare s'.gens ∧ Heap.FlyingW B outer a cls (.ref t) s'.heap ∧
  (∀ h', B.StaysIn h' → s'.heap.UpToSlots h' → Un (frs outer) [] H H' s.heap h' ∧ HOk P w H' h') ∧ (∀ b o, s.heap.get? b = some o → b ∉ frs outer → H b = none → B.get? b = some o) ∧ s.heap.get? a = none ∧ H' a = none ∧ E cls none H'
section
variable {P : Program} {w : World} {K : PySem.W.Frag} {mg : Str → Option Value} {base : Heap} {N : List Str} {qual : Str} {scope : Scope} {f : Addr} {cd : Value} {A : Around} {outer : List Env} {s : Shared} {H : Hp} {E : XK}
end
end L2
set_option maxHeartbeats 4000000
namespace L2
open PySem PySem.Spec PyProof.Rows PySem.W
structure ExcK (K : PySem.W.Frag) (C : Addr) : Prop where
  ga : findIn K (.ref C) "__getattribute__" = some (some (.builtin "BaseException.__getattribute__"))
  gt : findIn K (.ref C) "__getattr__" = some none
  cl : findIn K (.ref C) "__class__" = some (some (.builtin "object.__class__"))
  mB : mroIn K C (.type "BaseException") = some true
  mO : mroIn K C (.type "object") = some true
section
variable {prog : Program} {w : World} {A : Around} {E : Value → Shared → Prop} {K : PySem.W.Frag} {h : Heap} {g : Array GenState} {d : Drawn} {t : Nat} {os : OsState} {a C : Addr} {o : Obj}
end
end L2
namespace L2
open PySem PySem.Spec PyProof.Rows PySem.W
section
variable {prog : Program} {w : World} {A : Around} {E : Value → Shared → Prop} {K : PySem.W.Frag} {a C D : Addr} {o : Obj} {s : Shared}
end
end L2
set_option maxHeartbeats 4000000
namespace L2
open PySem PySem.Spec PyProof.Rows PySem.W
section
variable {X : Cx} {pins : List (Addr × Obj)} {σ : St} {H : Hp} {s : Shared} {a : Addr} {E : Value → Shared → Prop}
end
def XS (X : Cx) (pins : List (Addr × Obj)) (σ : St) (a C : Addr) (H' : Hp) (s' : Shared) : Prop :=
  ∃ (t : Addr) (B : Heap), Heap.FlyingW B X.stack a (.ref C) (.ref t) s'.heap ∧ (∀ h', B.StaysIn h' → s'.heap.UpToSlots h' → Inv X pins σ H' { s' with heap := h' }) ∧ H' a = none ∧ X.s₀.heap.get? a = none ∧ a ≠ X.env.locals ∧ (∀ x c, X.env.cells.lookup x = some c → c ≠ a) ∧ ∀ p ∈ X.pn ++ pins, p.1 ≠ a
section
variable {X : Cx} {pins : List (Addr × Obj)} {σ : St} {H : Hp} {s s' : Shared} {e : Value}
end
end L2
set_option maxHeartbeats 4000000
namespace L2
open PySem PySem.Spec PyProof.Rows PySem.W
section
variable {X : Cx} {pins : List (Addr × Obj)} {σ : St} {H' : Hp} {s' : Shared} {a C Dc : Addr} {i : Nat} {x n : Str} {np pos : Pos} {b₀ : Stmt} {suite : List Stmt} {tb : TS} {D : Ends}
end
end L2
set_option maxHeartbeats 4000000
namespace L2
open PySem PySem.Spec PyProof.Rows PySem.W
section
variable {X : Cx} {C : Addr}
end
end L2
set_option maxHeartbeats 4000000
namespace L2
open PySem PySem.Spec PyProof.Rows PySem.W
abbrev PEx := SEnv → Option Str
def PuX (K : PySem.W.Frag) (R : Str → Hp → Prop) (ts : TS) (G : PEx) : Prop := ∀ (H0 : Hp) (O0 : List Addr) (Gh : Hp) (σ : St) (H : Hp) (ρ : SEnv) (C : Str) (E : Ends), OkO O0 H0 → StR K H0 O0 Gh σ H ρ → G ρ = some C →
  (∀ (σ' : St) (H' : Hp) (ρ' : SEnv), StR K H0 O0 Gh σ' H' ρ' → R C H') → ts E σ H
structure JX (X : Cx) (K : PySem.W.Frag) (R : Str → Hp → Prop) (st : Stmt) (ts : TS) (F : PSt) (G : PEx) : Prop where
  pe : PS X st ts
  pu : PuS K ts F
  px : PuX K R ts G
structure JXs (X : Cx) (K : PySem.W.Frag) (R : Str → Hp → Prop) (st : List Stmt) (ts : TS) (F : PSt) (G : PEx) : Prop where
  pe : PSs X st ts
  pu : PuS K ts F
  px : PuX K R ts G
section
variable {X : Cx} {K : PySem.W.Frag} {R : Str → Hp → Prop} {st : Stmt} {rest : List Stmt} {t u : TS} {F F' : PSt} {G G' : PEx} {pos : Pos}
end
structure CalleeX (P : Program) (w : World) (K : PySem.W.Frag) (mg : Str → Option Value) (base : Heap) (k : Nat) (x : Str) (ps : List Str) (sp : Sp) : Prop where
  ex : ∃ (f : Addr) (fd : FuncData), FnOk P w K mg base (CXE P w) k f fd ps sp ∧ mg x = some (.ref f) ∧ PySem.W.keepIn K (.ref f) = true ∧ Binds K fd ps [] ∧ ∃ o, K.lookup f = some o ∧ o.data = .func fd
section
variable {P : Program} {w : World} {K : PySem.W.Frag} {mg : Str → Option Value} {base : Heap}
end
end L2
set_option maxHeartbeats 4000000
namespace L2
open PySem PySem.Spec PyProof.Rows PySem.W
def XE (X : Cx) (pins : List (Addr × Obj)) (σ : St) (R : Addr → Hp → Prop) : Value → Shared → Prop := fun e s' => ∃ (a C : Addr) (H' : Hp), e = .ref a ∧ XS X pins σ a C H' s' ∧ R C H'
section
variable {X : Cx} {k : Nat} {x : Str} {ps : List Str} {sp spx : Sp} {e : Expr} {es : List Expr} {t : TA} {p pos epos : Pos}
end
section
variable {X : Cx} {c : Expr} {tc : TT} {c1 c2 : Stmt} {t1 t2 : Ends → (Addr → Hp → Prop) → St → Hp → Prop} {x n : Str} {i : Nat} {Dc : Addr} {Cs : List Addr} {np hpos ipos pos : Pos} {b₀ : Stmt} {suite : List Stmt} {tb : Addr → TS}
end
end L2
set_option maxHeartbeats 4000000
namespace L2
open PySem PySem.Spec PyProof.Rows PySem.W
structure KC (K : PySem.W.Frag) (mg : Str → Option Value) (C1 C2 : Addr) (ds : List Addr) : Prop where
  m1 : mg "Full" = some (.ref C1)
  m2 : mg "NoKey" = some (.ref C2)
  a1 : kitOne K (.ref C1) (.ref C1) = some true
  a2 : kitOne K (.ref C1) (.ref C2) = some false
  a3 : kitAny K (.ref C1) (ds.map Value.ref) = some false
  a4 : kitOne K (.ref C1) (.type "ValueError") = some true
  b1 : kitOne K (.ref C2) (.ref C1) = some false
  b2 : kitOne K (.ref C2) (.ref C2) = some true
  b3 : kitAny K (.ref C2) (ds.map Value.ref) = some false
  b4 : kitOne K (.ref C2) (.type "ValueError") = some true
  dl : ds.length ≤ 1000
end L2
set_option maxHeartbeats 4000000
namespace L2
open PySem PySem.Spec PyProof.Rows PySem.W
section
variable {P : Program} {w : World} {K : PySem.W.Frag} {mg : Str → Option Value} {base : Heap} {N : List Str} {qual : Str} {scope : Scope} {f : Addr} {cd : Value} {A : Around} {outer : List Env} {s : Shared} {H : Hp} {E : XK}
end
section
variable {X : Cx} {k : Nat} {x : Str} {ps : List Str} {sp spx : Sp} {e : Expr} {es : List Expr} {t : TA} {p pos : Pos} {E' : XK}
end
end L2
set_option maxHeartbeats 4000000
namespace L2
open PySem PySem.Spec PyProof.Rows PySem.W
abbrev PXe := PEnv → Option Str
def PuEX (K : PySem.W.Frag) (R : Str → Hp → Prop) (te : TE) (g : PXe) : Prop := ∀ (O : List Addr) (σ : St) (H : Hp) (ρ : PEnv) (C : Str) (Q : VK), OkO O H → EnvR K (hid O H) σ ρ → g ρ = some C → (∀ H', Same H H' → R C H') → te σ H Q
structure JLX (X : Cx) (K : PySem.W.Frag) (R : Str → Hp → Prop) (e : Expr) (te : TE) (f : PAs) (g : PXe) : Prop where
  pe : PE X e te
  pu : PuL K te f
  px : PuEX K R te g
structure JEX (X : Cx) (K : PySem.W.Frag) (R : Str → Hp → Prop) (e : Expr) (te : TE) (f : PF) (g : PXe) : Prop where
  pe : PE X e te
  pu : PuE K te f
  px : PuEX K R te g
section
variable {P : Program} {w : World} {K : PySem.W.Frag} {mg : Str → Option Value} {base : Heap} {N : List Str} {qual : Str} {scope : Scope} {f : Addr} {cd : Value} {A : Around} {outer : List Env} {s : Shared} {H : Hp} {E : XK}
  {k n : Nat} {x : Str} {ps : List Str} {e : Expr} {es : List Expr} {t : TA} {r : PAs} {p pos : Pos} {g : List D → Option Str}
end
section
variable {X : Cx} {K : PySem.W.Frag} {R : Str → Hp → Prop} {st : Stmt} {te : TE} {g : PXe}
end
end L2
set_option maxHeartbeats 4000000
namespace L2
open PySem PySem.Spec PyProof.Rows PySem.W
structure JAX (X : Cx) (K : PySem.W.Frag) (R : Str → Hp → Prop) (es : List Expr) (t : TA) (f : PAs) (g : PXe) : Prop where
  pe : PA X es t
  pu : PuA K t f
  px : ∀ (O : List Addr) (σ : St) (H : Hp) (ρ : PEnv) (C : Str) (Q : List V → Hp → Prop), OkO O H → EnvR K (hid O H) σ ρ → g ρ = some C → (∀ H', Same H H' → R C H') → t σ H Q
section
variable {X : Cx} {K : PySem.W.Frag} {R : Str → Hp → Prop}
end
end L2
set_option maxHeartbeats 4000000
namespace L2
open PySem PySem.Spec PyProof.Rows PySem.W
section
variable {X : Cx} {k : Nat} {x y : Str} {ps : List Str} {sp spx : Sp} {e : Expr} {es : List Expr} {t : TA} {p pos pos' apos : Pos} {i : Nat}
end
section
variable {X : Cx} {c1 : Stmt} {t1 : Ends → (Addr → Hp → Prop) → St → Hp → Prop} {x n : Str} {i : Nat} {Dc : Addr} {Cs : List Addr} {np hpos pos : Pos} {b₀ : Stmt} {suite : List Stmt} {tb : Addr → TS}
end
end L2
set_option maxHeartbeats 4000000
namespace L2
open PySem PySem.Spec PyProof.Rows PySem.W
section
variable {K : PySem.W.Frag} {G H : Hp}
end
structure KC3 (K : PySem.W.Frag) (mg : Str → Option Value) (x1 : Str) (C1 : Addr) (ds : List Addr) : Prop where
  m1 : mg x1 = some (.ref C1)
  a1 : kitOne K (.ref C1) (.ref C1) = some true
  a3 : kitAny K (.ref C1) (ds.map Value.ref) = some false
  a4 : kitOne K (.ref C1) (.type "ValueError") = some true
  dl : ds.length ≤ 1000
end L2
set_option maxHeartbeats 4000000
namespace L2
open PySem PySem.Spec PyProof.Rows
section
variable {X : Cx} {K : PySem.W.Frag}
end
structure FunG (K : PySem.W.Frag) (x qual : Str) (st : Stmt) (f : Addr) (fd : FuncData) : Prop where
  ex : ∃ (oc : Value) (od : Option Addr) (dV kV doc pm : Value) (an : Option Addr) (cdv ct : Value) (osl : Array (Option Value)),
    fd = PySem.W.fnOf x qual (defArgs st) (defBody st) (defScope st) dV kV doc pm an cdv ct ∧ K.lookup f = some ⟨oc, od, .func fd, osl⟩ ∧ PySem.W.codeIn K cdv qual = true
  kp : PySem.W.keepIn K (.ref f) = true
structure MDef (K : PySem.W.Frag) (C : Addr) (m qual : Str) (st : Stmt) (ps : List Str) : Prop where
  ex : ∃ (f : Addr) (fd : FuncData), FunG K m qual st f fd ∧ Meth K C m f ∧ Binds K fd ps []
structure MCallee (P : Program) (w : World) (K : PySem.W.Frag) (mg : Str → Option Value) (base : Heap) (k : Nat) (C : Addr) (m : Str) (ps : List Str) (sp : Sp) : Prop where
  ex : ∃ (f : Addr) (fd : FuncData), FnOk P w K mg base CX0 k f fd ps sp ∧ Meth K C m f ∧ Binds K fd ps []
section
variable {P : Program} {w : World} {K : PySem.W.Frag} {mg : Str → Option Value} {base : Heap} {C : Addr}
end
section
variable {X : Cx} {K : PySem.W.Frag} {k n : Nat} {m : Str} {ps : List Str} {apos pos : Pos} {o e : Expr} {es : List Expr} {to : TE} {fo : PF} {t : TA} {r : PAs} {C : Addr}
end
end L2
set_option maxHeartbeats 4000000
namespace L2
open PySem PySem.Spec PyProof.Rows
abbrev Ob := List Str × List D
def pRetOb (vf : SEnv → Option Sl) : PSt := fun ρ => (vf ρ).bind fun s => (asSh s).bind fun d => some (.ro d ρ)
section
variable {K : PySem.W.Frag}
theorem Slots.change {H H' : Hp} {a : Addr} {c c' : Cn} (hs : ∀ (b : Addr) (o : HO), b ≠ a → H b = some o → H' b = some o) : ∀ {σ : St} {ρ : SEnv} {O1 : List Addr} {i : Nat} {G1 G2 : Hp}, O1.Nodup → Slots K G1 H σ ρ O1 → Same G1 G2 → ρ[i]? = some (.tr a c) → Held K G2 H' a c' → Slots K G2 H' σ (ρ.set i (.tr a c')) O1 := by
  intro σ ρ O1 i G1 G2 nd s
  induction s generalizing i with
  | nil => intro _ h; cases h
  | no s ih =>
    intro g h hc
    cases i with
    | zero => cases h
    | succ i => exact .no (ih nd g h hc)
  | sh r s ih =>
    intro g h hc
    cases i with
    | zero => cases h
    | succ i => exact .sh (r.mono g) (ih nd g h hc)
  | ow e r s ih =>
    intro g h hc
    have nd' := List.nodup_cons.mp nd
    cases i with
    | zero => cases h
    | succ i =>
      obtain ⟨_, q, _⟩ := s.getTr (i := i) h
      exact .ow (hs _ _ (fun z => nd'.1 (by rw [z]; exact q)) e) (r.mono g) (ih nd'.2 g h hc)
  | on e r s ih =>
    intro g h hc
    have nd' := List.nodup_cons.mp nd
    have nd2 := List.nodup_append.mp nd'.2
    cases i with
    | zero => cases h
    | succ i =>
      obtain ⟨_, q, _⟩ := s.getTr (i := i) h
      exact .on (hs _ _ (fun z => nd'.1 (by rw [z]; exact List.mem_append_right _ q)) e) (r.mono g fun b hb o e => hs b o (fun z => nd2.2.2 b hb a q z) e) (ih nd2.2.1 g h hc)
  | tr e s ih =>
    intro g h hc
    have nd' := List.nodup_cons.mp nd
    cases i with
    | zero =>
      cases h
      exact .tr hc (s.mono g fun b hb o e => hs b o (fun z => nd'.1 (by rw [← z]; exact hb)) e)
    | succ i =>
      obtain ⟨_, q, _⟩ := s.getTr (i := i) h
      exact .tr (e.mono g fun o e => hs _ o (fun z => nd'.1 (by rw [z]; exact q)) e) (ih nd'.2 g h hc)
theorem hid_change {O : List Addr} {H H' : Hp} {a : Addr} (ha : a ∈ O) (hs : ∀ (b : Addr) (o : HO), b ≠ a → H b = some o → H' b = some o) : Same (hid O H) (hid O H') := fun b o e => by
  obtain ⟨n1, e⟩ := hid_some e
  rw [hid_out n1]
  exact hs b o (fun z => n1 (by rw [z]; exact ha)) e
end
section
variable {X : Cx} {K : PySem.W.Frag}
end
end L2
set_option maxHeartbeats 4000000
namespace L2
open PySem PySem.Spec PyProof.Rows
abbrev MF := Addr → Ob → List D → Option (D × Ob)
theorem mem_swap {O : List Addr} {a b : Addr} : b ∈ a :: O ↔ b ∈ O ++ [a] := by
  simp [or_comm]
section
variable {P : Program} {w : World} {K : PySem.W.Frag} {mg : Str → Option Value} {base : Heap} {C : Addr}
end
def PuW (K : PySem.W.Frag) (te : TE) (wf : SEnv → Option (D × SEnv)) : Prop := ∀ (H0 : Hp) (O0 : List Addr) (G : Hp) (σ : St) (H : Hp) (ρ ρ' : SEnv) (d : D) (Q : VK), OkO O0 H0 → StR K H0 O0 G σ H ρ → wf ρ = some (d, ρ') →
  (∀ v H', StV K H0 O0 G σ H' ρ' v (.sh d) → Q v H') → te σ H Q
structure JM (X : Cx) (K : PySem.W.Frag) (e : Expr) (te : TE) (wf : SEnv → Option (D × SEnv)) : Prop where
  pe : PE X e te
  pu : PuW K te wf
def pSetM (j : Nat) (wf : SEnv → Option (D × SEnv)) : PSt := fun ρ => (wf ρ).bind fun x => some (.nx (x.2.set j (.sh x.1)))
section
variable {X : Cx} {K : PySem.W.Frag} {C : Addr}
theorem js_retOb {e : Expr} {te : TE} {vf : SEnv → Option Sl} {pos : Pos} (he : PE X e te) (pv : PuV K te vf) : JS X K (.Return (some e) pos) (tRet te) (pRetOb vf) := ⟨ps_ret he, by
  intro H0 O0 G σ H ρ o E ok t hf q
  obtain ⟨s, e1, hf⟩ := bind_some' hf
  obtain ⟨d, e2, hf⟩ := bind_some' hf
  cases hf
  have es : s = .sh d := by
    unfold asSh at e2
    split at e2
    · cases e2; rfl
    · cases e2
  subst es
  refine pv H0 O0 G σ H ρ (.sh d) _ ok t e1 fun v H' s1 sv => q v σ H' ?_
  obtain ⟨O, P, s0, n, nd, g, sl, hh⟩ := sv.ex
  exact ⟨O, P, s0, n, nd, (fun b o e => by cases e), sl, hh⟩⟩
end
open Classical in
noncomputable def mkD (f : MF) (as : List D) : Option D := if h : ∃ o : Ob, ∀ a, f a ([], []) as = some (.none, o) then some (.dict (objK h.choose.1 h.choose.2)) else none
noncomputable def pMake (f : MF) (r : PAs) : PF := fun ρ => (r ρ).bind (mkD f)
section
variable {X : Cx} {K : PySem.W.Frag} {C : Addr}
end
end L2
set_option maxHeartbeats 4000000
namespace L2
open PySem PySem.Spec PyProof.Rows
abbrev tuplesK (b : Bool) : SortKind := (sortPriv% PySem.Builtin.KeyKind.tuples) b
def PairK (h : Heap) (v : Value) (k : Int) : Prop := ∃ (a : Addr) (o : Obj) (w : Int) (t u : Tok) (n : Nat), v = .ref a ∧ h.get? a = some o ∧ o.cls = .type "tuple" ∧ o.data = .seq #[.int k t, .int w u] n
section
variable {prog : Program} {w : World} {A : Around} {E : Value → Shared → Prop} {s : Shared}
theorem keyLt_tup (b : Bool) (x y : Value) : keyLt' (tuplesK b) x y = (do
    let xs ← Builtin.List.listItems x
    let ys ← Builtin.List.listItems y
    for ((p, q), i) in (xs.toList.zip ys.toList).zipIdx do
      if !(← eqBool p q) then return ← oneLt' (b && i == 0) p q
    return decide (xs.size < ys.size)) := rfl
theorem keyLt_pair {x y : Value} {k k' : Int} {Q : Bool → Shared → Prop} (hx : PairK s.heap x k) (hy : PairK s.heap y k') (hne : k ≠ k') (h : Q (decide (k < k')) s) : wpAny (model prog w) A (keyLt' (tuplesK true) x y) Q E s := by
  obtain ⟨a, o, v, t, u, n, rfl, ho, hc, hd⟩ := hx
  obtain ⟨a', o', v', t', u', n', rfl, ho', hc', hd'⟩ := hy
  rw [keyLt_tup]
  refine wpAny_bind (listItems_at ho hd ?_)
  refine wpAny_bind (listItems_at ho' hd' ?_)
  show wpAny _ _ (forIn [((Value.int k t, Value.int k' t'), 0), ((Value.int v u, Value.int v' u'), 1)] _ _ >>= _) _ _ _
  rw [List.forIn_cons]
  refine wpAny_bind (wpAny_bind (wpAny_bind (wpAny_eqBool_int ?_)))
  rw [show (k == k') = false from by simpa using hne]
  refine wpAny_bind (oneLt_int (wpAny_pure ?_))
  exact wpAny_pure (wpAny_pure h)
section
variable {K0 : Nat → Int} {n j0 : Nat} (hn : 1 ≤ n) (hr : ∀ i j, i < j → j < n → K0 i < K0 j) (hj : j0 ≤ n) (hlo : ∀ i, i < j0 → K0 i < K0 n) (hhi : ∀ i, j0 ≤ i → i < n → K0 n < K0 i)
include hn hr hj hlo hhi
end
section
variable {K0 : Nat → Int} {n j0 : Nat} (hn : 1 ≤ n) (hj : j0 ≤ n) (hlo : ∀ i, i < j0 → K0 i < K0 n) (hhi : ∀ i, j0 ≤ i → i < n → K0 n < K0 i)
include hn hj hlo hhi
end
section
variable {K0 : Nat → Int} {n j0 : Nat} (hn : 1 ≤ n) (hr : ∀ i j, i < j → j < n → K0 i < K0 j) (hj : j0 ≤ n) (hlo : ∀ i, i < j0 → K0 i < K0 n) (hhi : ∀ i, j0 ≤ i → i < n → K0 n < K0 i)
include hn hr hj hlo hhi
end
end
end L2
set_option maxHeartbeats 4000000
namespace L2
open PySem PySem.Spec PyProof.Rows
section
variable {prog : Program} {w : World} {A : Around} {E : Value → Shared → Prop} {s : Shared}
variable {K0 : Nat → Int} {n j0 : Nat} (hn : 1 ≤ n) (hr : ∀ i j, i < j → j < n → K0 i < K0 j) (hj : j0 ≤ n) (hlo : ∀ i, i < j0 → K0 i < K0 n) (hhi : ∀ i, j0 ≤ i → i < n → K0 n < K0 i)
include hn hr hj hlo hhi
end
end L2
set_option maxHeartbeats 4000000
namespace L2
open PySem PySem.Spec PyProof.Rows
theorem kat_of {hp : Heap} : ∀ (vs : List Value), (∀ v ∈ vs, ∃ k, PairK hp v k) → ∃ fs : List Value, fs.length = vs.length ∧ PySem.W.KatTups hp vs fs ∧ ∀ v ∈ fs, ∃ (k : Int) (t : Tok), v = Value.int k t
  | [], _ => ⟨[], rfl, .nil, fun v h => by cases h⟩
  | v :: vs, hall => by
    obtain ⟨fs, h1, h2, h3⟩ := kat_of vs fun v hm => hall v (.tail _ hm)
    obtain ⟨k, b, o, x, t, u, m, rfl, hb, hc, hd⟩ := hall v (.head _)
    refine ⟨.int k t :: fs, by simp [h1], PySem.W.KatTups.cons hb hc hd rfl h2, fun v hm => ?_⟩
    rcases List.mem_cons.mp hm with rfl | hm
    · exact ⟨k, t, rfl⟩
    · exact h3 v hm
section
variable {prog : Program} {w : World} {A : Around} {E : Value → Shared → Prop} {s : Shared}
variable {K0 : Nat → Int} {n j0 : Nat} (hr : ∀ i j, i < j → j < n → K0 i < K0 j) (hj : j0 ≤ n) (hlo : ∀ i, i < j0 → K0 i < K0 n) (hhi : ∀ i, j0 ≤ i → i < n → K0 n < K0 i)
include hr hj hlo hhi
end
end L2
set_option maxHeartbeats 4000000
namespace L2
open PySem PySem.Spec PyProof.Rows
section
variable {prog : Program} {w : World} {A : Around} {E : Value → Shared → Prop} {s : Shared}
variable {K0 : Nat → Int} {n j0 : Nat} (hr : ∀ i j, i < j → j < n → K0 i < K0 j) (hj : j0 ≤ n) (hlo : ∀ i, i < j0 → K0 i < K0 n) (hhi : ∀ i, j0 ≤ i → i < n → K0 n < K0 i)
include hr hj hlo hhi
end
section
variable {X : Cx}
end
end L2
set_option maxHeartbeats 4000000
namespace L2
open PySem PySem.Spec PyProof.Rows PySem.W
def gN (p : Array Nat) (i : Nat) : Nat := p.getD i 0
theorem gN_of {p : Array Nat} {i : Nat} (h : i < p.size) : p[i]? = some (gN p i) := by
  unfold gN
  simp [Array.getD, h]
theorem gN_swap {p : Array Nat} {a b : Nat} (ha : a < p.size) (hb : b < p.size) (i : Nat) : gN (p.swapIfInBounds a b) i = if i = a then gN p b else if i = b then gN p a else gN p i := by
  have e : p.swapIfInBounds a b = p.swap a b := by
    unfold Array.swapIfInBounds
    rw [dif_pos ha, dif_pos hb]
  rw [e]
  by_cases hi : i < p.size
  · have g : ∀ {q : Array Nat} {j : Nat} (h : j < q.size), gN q j = q[j] := fun {q j} h => by
      unfold gN
      simp [Array.getD, h]
    rw [g (show i < (p.swap a b).size by rw [Array.size_swap]; exact hi), g ha, g hb, g hi, Array.getElem_swap]
  · have o : ∀ {q : Array Nat} {j : Nat}, ¬ j < q.size → gN q j = 0 := fun {q j} h => by
      unfold gN
      simp [Array.getD, h]
    rw [o (show ¬ i < (p.swap a b).size by rw [Array.size_swap]; exact hi), o hi, if_neg (by omega), if_neg (by omega)]
theorem bub_size (p : Array Nat) (k d : Nat) : (bubble p k d).size = p.size := bubble_size p k d
theorem gN_bub {p : Array Nat} {k : Nat} (hk : k < p.size) : ∀ d, d ≤ k → ∀ i, gN (bubble p k d) i = if i < k - d then gN p i else if i = k - d then gN p k else if i ≤ k then gN p (i - 1) else gN p i
  | 0, _, i => by
    have e : bubble p k 0 = p := rfl
    rw [e]
    by_cases h1 : i < k - 0
    · rw [if_pos h1]
    · rw [if_neg h1]
      by_cases h2 : i = k - 0
      · rw [if_pos h2, h2]; rfl
      · rw [if_neg h2, if_neg (by omega)]
  | d + 1, hd, i => by
    rw [bubble_succ, gN_swap (by rw [bub_size]; omega) (by rw [bub_size]; omega), gN_bub hk d (by omega), gN_bub hk d (by omega), gN_bub hk d (by omega)]
    by_cases h1 : i = k - d
    · subst h1
      rw [if_pos rfl, if_pos (by omega), if_neg (by omega), if_neg (by omega), if_pos (by omega)]
    · rw [if_neg h1]
      by_cases h2 : i = k - d - 1
      · subst h2
        rw [if_pos rfl, if_neg (by omega), if_pos rfl, if_neg (by omega), if_pos (by omega)]
      · rw [if_neg h2]
        by_cases h3 : i < k - (d + 1)
        · rw [if_pos (by omega), if_pos h3]
        · rw [if_neg (by omega), if_neg h1, if_neg h3, if_neg (show ¬ i = k - (d + 1) by omega)]
theorem gN_mir {p : Array Nat} {m : Nat} (hm : m ≤ p.size) : ∀ d, d ≤ m / 2 → ∀ i, gN (mirror p 0 m d) i = if i < d ∨ (m - d ≤ i ∧ i < m) then gN p (m - 1 - i) else gN p i
  | 0, _, i => by
    have e : mirror p 0 m 0 = p := rfl
    rw [e, if_neg (by omega)]
  | d + 1, hd, i => by
    have hs : (mirror p 0 m d).size = p.size := mirror_size p 0 m d
    rw [mirror_succ, gN_swap (by rw [hs]; omega) (by rw [hs]; omega), gN_mir hm d (by omega), gN_mir hm d (by omega), gN_mir hm d (by omega)]
    by_cases h1 : i = 0 + d
    · rw [if_pos h1, if_neg (by omega), if_pos (by omega)]
      congr 1
      omega
    · rw [if_neg h1]
      by_cases h2 : i = m - 1 - d
      · rw [if_pos h2, if_neg (by omega), if_pos (by omega)]
        congr 1
        omega
      · rw [if_neg h2]
        by_cases h3 : i < d ∨ (m - d ≤ i ∧ i < m)
        · rw [if_pos h3, if_pos (by omega)]
        · rw [if_neg h3, if_neg (by omega)]
structure Pm (p : Array Nat) (n : Nat) : Prop where
  sz : p.size = n
  lt : ∀ i, i < n → gN p i < n
  inj : ∀ i j, i < n → j < n → gN p i = gN p j → i = j
theorem Pm.bub {p : Array Nat} {n k d : Nat} (h : Pm p n) (hk : k < n) (hd : d ≤ k) : Pm (bubble p k d) n := by
  have hk' : k < p.size := by rw [h.sz]; exact hk
  refine ⟨by rw [bub_size, h.sz], fun i hi => ?_, fun i j hi hj e => ?_⟩
  · rw [gN_bub hk' d hd]
    split
    · exact h.lt _ hi
    · split
      · exact h.lt _ hk
      · split
        · exact h.lt _ (by omega)
        · exact h.lt _ hi
  · rw [gN_bub hk' d hd, gN_bub hk' d hd] at e
    have key : ∀ x y, x < n → y < n → gN p x = gN p y → x = y := h.inj
    by_cases i1 : i < k - d
    · rw [if_pos i1] at e
      by_cases j1 : j < k - d
      · rw [if_pos j1] at e; exact key _ _ hi hj e
      · rw [if_neg j1] at e
        by_cases j2 : j = k - d
        · rw [if_pos j2] at e; have := key _ _ hi hk e; omega
        · rw [if_neg j2] at e
          by_cases j3 : j ≤ k
          · rw [if_pos j3] at e; have := key _ _ hi (by omega) e; omega
          · rw [if_neg j3] at e; have := key _ _ hi hj e; omega
    · rw [if_neg i1] at e
      by_cases i2 : i = k - d
      · rw [if_pos i2] at e
        by_cases j1 : j < k - d
        · rw [if_pos j1] at e; have := key _ _ hk hj e; omega
        · rw [if_neg j1] at e
          by_cases j2 : j = k - d
          · omega
          · rw [if_neg j2] at e
            by_cases j3 : j ≤ k
            · rw [if_pos j3] at e; have := key _ _ hk (by omega) e; omega
            · rw [if_neg j3] at e; have := key _ _ hk hj e; omega
      · rw [if_neg i2] at e
        by_cases i3 : i ≤ k
        · rw [if_pos i3] at e
          by_cases j1 : j < k - d
          · rw [if_pos j1] at e; have := key _ _ (by omega) hj e; omega
          · rw [if_neg j1] at e
            by_cases j2 : j = k - d
            · rw [if_pos j2] at e; have := key _ _ (by omega) hk e; omega
            · rw [if_neg j2] at e
              by_cases j3 : j ≤ k
              · rw [if_pos j3] at e; have := key _ _ (by omega) (by omega) e; omega
              · rw [if_neg j3] at e; have := key _ _ (by omega) hj e; omega
        · rw [if_neg i3] at e
          by_cases j1 : j < k - d
          · rw [if_pos j1] at e; have := key _ _ hi hj e; omega
          · rw [if_neg j1] at e
            by_cases j2 : j = k - d
            · rw [if_pos j2] at e; have := key _ _ hi hk e; omega
            · rw [if_neg j2] at e
              by_cases j3 : j ≤ k
              · rw [if_pos j3] at e; have := key _ _ hi (by omega) e; omega
              · rw [if_neg j3] at e; exact key _ _ hi hj e
theorem Pm.rev {p : Array Nat} {n m : Nat} (h : Pm p n) (hm : m ≤ n) : Pm (kas_rev p 0 m) n ∧ ∀ i, gN (kas_rev p 0 m) i = if i < m then gN p (m - 1 - i) else gN p i := by
  have hm' : m ≤ p.size := by rw [h.sz]; exact hm
  have e : ∀ i, gN (kas_rev p 0 m) i = if i < m then gN p (m - 1 - i) else gN p i := fun i => by
    unfold kas_rev
    rw [gN_mir hm' ((m - 0) / 2) (by omega)]
    by_cases h1 : i < m
    · rw [if_pos h1]
      by_cases h2 : i < (m - 0) / 2 ∨ (m - (m - 0) / 2 ≤ i ∧ i < m)
      · rw [if_pos h2]
      · rw [if_neg h2]
        congr 1
        omega
    · rw [if_neg h1, if_neg (by omega)]
  refine ⟨⟨by unfold kas_rev; rw [mirror_size, h.sz], fun i hi => ?_, fun i j hi hj q => ?_⟩, e⟩
  · rw [e]
    split
    · exact h.lt _ (by omega)
    · exact h.lt _ hi
  · rw [e, e] at q
    split at q <;> split at q <;> (have := h.inj _ _ (by omega) (by omega) q; omega)
section
variable {K0 : Nat → Int} {n : Nat}
def cmp0 (K0 : Nat → Int) (n : Nat) : Nat → Nat → (Bool → Shared → Prop) → Shared → Prop := fun i j C s => i < n ∧ j < n ∧ i ≠ j ∧ C (decide (K0 i < K0 j)) s
theorem kwp_mono {α : Type} {cmp cmp' : Nat → Nat → (Bool → Shared → Prop) → Shared → Prop} {Q Q' : α → Shared → Prop} (hc : ∀ i j C C' s, cmp i j C s → (∀ b s, C b s → C' b s) → cmp' i j C' s) (hq : ∀ a s, Q a s → Q' a s) : ∀ (t : KasT α) (s : Shared), t.kasWp cmp Q s → t.kasWp cmp' Q' s
  | .ret a, s, h => hq a s h
  | .ask i j k, s, h => hc i j _ _ s h fun b s' h' => kwp_mono hc hq (k b) s' h'
theorem cmp0_mono : ∀ i j (C C' : Bool → Shared → Prop) s, cmp0 K0 n i j C s → (∀ b s, C b s → C' b s) → cmp0 K0 n i j C' s := fun i j C C' s h f => ⟨h.1, h.2.1, h.2.2.1, f _ _ h.2.2.2⟩
def Asc (K0 : Nat → Int) (p : Array Nat) (m : Nat) : Prop := ∀ i j, i < j → j < m → K0 (gN p i) < K0 (gN p j)
def Dsc (K0 : Nat → Int) (p : Array Nat) (m : Nat) : Prop := ∀ i j, i < j → j < m → K0 (gN p j) < K0 (gN p i)
theorem Asc.snoc {p : Array Nat} {m : Nat} (h : Asc K0 p m) (h1 : 1 ≤ m) (hl : K0 (gN p (m - 1)) < K0 (gN p m)) : Asc K0 p (m + 1) := fun i j hij hj => by
  by_cases e : j = m
  · subst e
    by_cases e2 : i = j - 1
    · subst e2; exact hl
    · exact Int.lt_trans (h i (j - 1) (by omega) (by omega)) hl
  · exact h i j hij (by omega)
theorem Dsc.snoc {p : Array Nat} {m : Nat} (h : Dsc K0 p m) (h1 : 1 ≤ m) (hl : K0 (gN p m) < K0 (gN p (m - 1))) : Dsc K0 p (m + 1) := fun i j hij hj => by
  by_cases e : j = m
  · subst e
    by_cases e2 : i = j - 1
    · subst e2; exact hl
    · exact Int.lt_trans hl (h i (j - 1) (by omega) (by omega))
  · exact h i j hij (by omega)
variable (hK : ∀ i j, i < n → j < n → K0 i = K0 j → i = j)
include hK
theorem asc_ok {p : Array Nat} (hp : Pm p n) : ∀ (f m : Nat) (s : Shared), 1 ≤ m → m + f ≤ n → Asc K0 p m → (kas_asc p f m).kasWp (cmp0 K0 n) (fun r _ => m ≤ r ∧ r ≤ m + f ∧ Asc K0 p r ∧ (r < m + f → K0 (gN p r) < K0 (gN p (r - 1)))) s
  | 0, m, s, _, _, ha => ⟨Nat.le_refl _, Nat.le_refl _, ha, fun h => by omega⟩
  | f + 1, m, s, h1, hf, ha => by
    have l1 := hp.lt m (by omega)
    have l2 := hp.lt (m - 1) (by omega)
    have ne : gN p m ≠ gN p (m - 1) := fun e => by have := hp.inj m (m - 1) (by omega) (by omega) e; omega
    refine ⟨l1, l2, ne, ?_⟩
    show KasT.kasWp _ (if decide (K0 (gN p m) < K0 (gN p (m - 1))) = true then _ else _) _ s
    by_cases c : K0 (gN p m) < K0 (gN p (m - 1))
    · rw [decide_eq_true c, if_pos rfl]
      exact ⟨Nat.le_refl _, by omega, ha, fun _ => c⟩
    · rw [decide_eq_false c, if_neg Bool.false_ne_true]
      have : K0 (gN p (m - 1)) < K0 (gN p m) := by
        have : K0 (gN p m) ≠ K0 (gN p (m - 1)) := fun e => ne (hK _ _ l1 l2 e)
        omega
      exact kwp_mono cmp0_mono (fun r s q => ⟨by omega, by omega, q.2.2.1, fun h => q.2.2.2 (by omega)⟩) _ s (asc_ok hp f (m + 1) s (by omega) (by omega) (ha.snoc h1 this))
theorem desc_ok {p : Array Nat} (hp : Pm p n) : ∀ (f m : Nat) (s : Shared), 1 ≤ m → m + f ≤ n → Dsc K0 p m → (kas_desc f p m 0).kasWp (cmp0 K0 n) (fun r _ => r.1 = p ∧ m ≤ r.2.1 ∧ r.2.1 ≤ m + f ∧ r.2.2 = 0 ∧ Dsc K0 p r.2.1) s
  | 0, m, s, _, _, ha => ⟨rfl, Nat.le_refl _, Nat.le_refl _, rfl, ha⟩
  | f + 1, m, s, h1, hf, ha => by
    have l1 := hp.lt m (by omega)
    have l2 := hp.lt (m - 1) (by omega)
    have ne : gN p m ≠ gN p (m - 1) := fun e => by have := hp.inj m (m - 1) (by omega) (by omega) e; omega
    refine ⟨l1, l2, ne, ?_⟩
    show KasT.kasWp _ (if decide (K0 (gN p m) < K0 (gN p (m - 1))) = true then _ else _) _ s
    by_cases c : K0 (gN p m) < K0 (gN p (m - 1))
    · rw [decide_eq_true c, if_pos rfl, if_neg (by omega)]
      exact kwp_mono cmp0_mono (fun r s q => ⟨q.1, by omega, by omega, q.2.2.2⟩) _ s (desc_ok hp f (m + 1) s (by omega) (by omega) (ha.snoc h1 c))
    · rw [decide_eq_false c, if_neg Bool.false_ne_true]
      have lt : K0 (gN p (m - 1)) < K0 (gN p m) := by
        have : K0 (gN p m) ≠ K0 (gN p (m - 1)) := fun e => ne (hK _ _ l1 l2 e)
        omega
      refine ⟨l2, l1, Ne.symm ne, ?_⟩
      show KasT.kasWp _ (if decide (K0 (gN p (m - 1)) < K0 (gN p m)) = true then _ else _) _ s
      rw [decide_eq_true lt, if_pos rfl]
      exact ⟨rfl, Nat.le_refl _, Nat.le_add_right _ _, rfl, ha⟩
theorem part_ok {p : Array Nat} (hp : Pm p n) (s : Shared) (h2 : 2 ≤ n) (hd : K0 (gN p 1) < K0 (gN p 0)) : (kas_descPart 1 n p).kasWp (cmp0 K0 n) (fun r _ => 1 ≤ r.1 ∧ r.1 ≤ n ∧ Pm r.2 n ∧ Asc K0 r.2 r.1) s := by
  unfold kas_descPart
  rw [KasT.kasWp_bind]
  have hd2 : Dsc K0 p 2 := fun i j hij hj => by
    obtain rfl : i = 0 := by omega
    obtain rfl : j = 1 := by omega
    exact hd
  refine kwp_mono cmp0_mono (fun r s q => ?_) _ s (desc_ok hK hp (n - (1 + 1)) (1 + 1) s (by omega) (by omega) hd2)
  obtain ⟨q1, q2, q3, q4, q5⟩ := q
  rw [if_neg (by omega), q1]
  unfold kas_tail3
  rw [KasT.kasWp_bind]
  obtain ⟨pr, er⟩ := hp.rev (m := r.2.1) (by omega)
  have ha : Asc K0 (kas_rev p 0 r.2.1) r.2.1 := fun i j hij hj => by
    rw [er, er, if_pos (show i < r.2.1 by omega), if_pos hj]
    exact q5 _ _ (by omega) (by omega)
  exact kwp_mono cmp0_mono (fun m s z => ⟨by omega, by omega, pr, z.2.2.1⟩) _ s (asc_ok hK pr (n - r.2.1) r.2.1 s (by omega) (by omega) ha)
theorem count_ok {p : Array Nat} (hp : Pm p n) (s : Shared) (h1 : 1 ≤ n) : (kas_count n p).kasWp (cmp0 K0 n) (fun r _ => 1 ≤ r.1 ∧ r.1 ≤ n ∧ Pm r.2 n ∧ Asc K0 r.2 r.1) s := by
  unfold kas_count
  rw [KasT.kasWp_bind]
  refine kwp_mono cmp0_mono (fun m s q => ?_) _ s (asc_ok hK hp (n - 1) 1 s (Nat.le_refl _) (by omega) fun i j hij hj => by omega)
  obtain ⟨q1, q2, q3, q4⟩ := q
  by_cases e : m = n
  · rw [if_pos (by simpa using e)]
    exact ⟨q1, by omega, hp, q3⟩
  · rw [if_neg (by simpa using e)]
    by_cases e1 : m > 1
    · rw [if_pos e1]
      have ne : gN p 0 ≠ gN p (m - 1) := fun z => by have := hp.inj 0 (m - 1) (by omega) (by omega) z; omega
      refine ⟨hp.lt 0 (by omega), hp.lt (m - 1) (by omega), ne, ?_⟩
      show KasT.kasWp _ (if decide (K0 (gN p 0) < K0 (gN p (m - 1))) = true then _ else _) _ s
      rw [decide_eq_true (q3 0 (m - 1) (by omega) (by omega)), if_pos rfl]
      exact ⟨q1, by omega, hp, q3⟩
    · rw [if_neg e1]
      have e2 : m = 1 := by omega
      subst e2
      exact part_ok hK hp s (by omega) (q4 (by omega))
theorem place_ok {p : Array Nat} {k : Nat} (hp : Pm p n) (hk : k < n) (ha : Asc K0 p k) : ∀ (f l r : Nat) (s : Shared), l ≤ r → r ≤ k → r - l ≤ f → (∀ i, i < l → K0 (gN p i) < K0 (gN p k)) → (∀ i, r ≤ i → i < k → K0 (gN p k) < K0 (gN p i)) →
    (kas_place p k f l r).kasWp (cmp0 K0 n) (fun x _ => x ≤ k ∧ (∀ i, i < x → K0 (gN p i) < K0 (gN p k)) ∧ ∀ i, x ≤ i → i < k → K0 (gN p k) < K0 (gN p i)) s
  | 0, l, r, s, h1, h2, h3, hl, hr => ⟨by omega, hl, fun i hi hik => hr i (by omega) hik⟩
  | f + 1, l, r, s, h1, h2, h3, hl, hr => by
    unfold kas_place
    by_cases e : l ≥ r
    · rw [if_pos e]
      exact ⟨by omega, hl, fun i hi hik => hr i (by omega) hik⟩
    · rw [if_neg e]
      have l1 := hp.lt k hk
      have l2 := hp.lt ((l + r) / 2) (by omega)
      have ne : gN p k ≠ gN p ((l + r) / 2) := fun z => by have := hp.inj k ((l + r) / 2) hk (by omega) z; omega
      refine ⟨l1, l2, ne, ?_⟩
      show KasT.kasWp _ (if decide (K0 (gN p k) < K0 (gN p ((l + r) / 2))) = true then _ else _) _ s
      by_cases c : K0 (gN p k) < K0 (gN p ((l + r) / 2))
      · rw [decide_eq_true c, if_pos rfl]
        refine place_ok hp hk ha f l ((l + r) / 2) s (by omega) (by omega) (by omega) hl fun i hi hik => ?_
        by_cases e2 : i = (l + r) / 2
        · rw [e2]; exact c
        · exact Int.lt_trans c (ha _ _ (by omega) hik)
      · rw [decide_eq_false c, if_neg Bool.false_ne_true]
        have lt : K0 (gN p ((l + r) / 2)) < K0 (gN p k) := by
          have : K0 (gN p k) ≠ K0 (gN p ((l + r) / 2)) := fun z => ne (hK _ _ l1 l2 z)
          omega
        refine place_ok hp hk ha f ((l + r) / 2 + 1) r s (by omega) (by omega) (by omega) (fun i hi => ?_) hr
        by_cases e2 : i = (l + r) / 2
        · rw [e2]; exact lt
        · exact Int.lt_trans (ha _ _ (show i < (l + r) / 2 by omega) (by omega)) lt
theorem bin_ok : ∀ (f k : Nat) (p : Array Nat) (s : Shared), Pm p n → k + f = n → Asc K0 p k → (kas_bin f p k).kasWp (cmp0 K0 n) (fun q _ => Pm q n ∧ Asc K0 q n) s
  | 0, k, p, s, hp, e, ha => ⟨hp, by rw [← e]; exact ha⟩
  | f + 1, k, p, s, hp, e, ha => by
    unfold kas_bin
    rw [KasT.kasWp_bind]
    refine kwp_mono cmp0_mono (fun x s q => ?_) _ s (place_ok hK hp (by omega) ha k 0 k s (by omega) (Nat.le_refl _) (by omega) (fun i hi => by omega) fun i h1 h2 => by omega)
    obtain ⟨q1, q2, q3⟩ := q
    have hk : k < p.size := by rw [hp.sz]; omega
    refine bin_ok f (k + 1) (bubble p k (k - x)) s (hp.bub (by omega) (by omega)) (by omega) fun i j hij hj => ?_
    rw [gN_bub hk (k - x) (by omega), gN_bub hk (k - x) (by omega), show k - (k - x) = x by omega]
    by_cases i1 : i < x
    · rw [if_pos i1]
      by_cases j1 : j < x
      · rw [if_pos j1]
        exact ha _ _ hij (by omega)
      · rw [if_neg j1]
        by_cases j2 : j = x
        · rw [if_pos j2]; exact q2 i i1
        · rw [if_neg j2, if_pos (by omega)]
          exact ha _ _ (by omega) (by omega)
    · rw [if_neg i1, if_neg (show ¬ j < x by omega), if_neg (show ¬ j = x by omega), if_pos (show j ≤ k by omega)]
      by_cases i2 : i = x
      · rw [if_pos i2]
        exact q3 _ (by omega) (by omega)
      · rw [if_neg i2, if_pos (show i ≤ k by omega)]
        exact ha _ _ (by omega) (by omega)
theorem sort_ok (s : Shared) (h1 : 1 ≤ n) : (kas_sort n).kasWp (cmp0 K0 n) (fun q _ => Pm q n ∧ Asc K0 q n) s := by
  have hp : Pm (List.toArray (List.range n)) n := by
    have g : ∀ i, i < n → gN (List.toArray (List.range n)) i = i := fun i hi => by
      unfold gN
      simp [Array.getD, hi]
    exact ⟨by simp, fun i hi => by rw [g i hi]; exact hi, fun i j hi hj e => by rw [g i hi, g j hj] at e; exact e⟩
  unfold kas_sort
  rw [KasT.kasWp_bind]
  refine kwp_mono cmp0_mono (fun r s q => ?_) _ s (count_ok hK hp s h1)
  obtain ⟨q1, q2, q3, q4⟩ := q
  by_cases e : r.1 < n
  · rw [if_pos e, show max r.1 1 = r.1 by omega]
    exact bin_ok hK _ _ _ s q3 (by omega) q4
  · rw [if_neg e]
    exact ⟨q3, by rw [show n = r.1 by omega]; exact q4⟩
end
end L2
namespace L2
open PySem PySem.Spec PyProof.Rows
section
variable {κ : Type} [DecidableEq κ]
def valV (kvs : List (κ × V)) (k : κ) : Option V := (kvs.find? fun kv => decide (kv.1 = k)).map (·.2)
def putK (kvs : List (κ × V)) (k : κ) (v : V) : List (κ × V) :=
  if (kvs.any fun kv => decide (kv.1 = k)) = true then kvs.map (fun kv => if kv.1 = k then (kv.1, v) else kv) else kvs ++ [(k, v)]
def dropK (kvs : List (κ × V)) (k : κ) : List (κ × V) := kvs.filter fun kv => decide (kv.1 ≠ k)
theorem valV_pos {p : κ × V} {r : List (κ × V)} {k : κ} (e : p.1 = k) : valV (p :: r) k = some p.2 := by simp [valV, List.find?_cons, e]
theorem valV_neg {p : κ × V} {r : List (κ × V)} {k : κ} (e : ¬ p.1 = k) : valV (p :: r) k = valV r k := by simp [valV, List.find?_cons, e]
theorem valV_any (k : κ) : ∀ kvs : List (κ × V), (kvs.any fun kv => decide (kv.1 = k)) = (valV kvs k).isSome
  | [] => rfl
  | p :: r => by
    rw [List.any_cons]
    by_cases e : p.1 = k
    · simp only [valV_pos e, decide_eq_true e, Bool.true_or, Option.isSome_some]
    · rw [valV_neg e, decide_eq_false e, Bool.false_or]; exact valV_any k r
theorem length_putK (kvs : List (κ × V)) (k : κ) (v : V) : (putK kvs k v).length ≤ kvs.length + 1 := by
  unfold putK
  split
  · rw [List.length_map]; omega
  · rw [List.length_append, List.length_cons, List.length_nil]; omega
theorem RelO.isSome_eq {o : Option V} {u : Option Value} (r : RelO o u) : o.isSome = u.isSome := by
  cases o with
  | none => cases u with
    | none => rfl
    | some _ => exact (show False from r).elim
  | some _ => cases u with
    | none => exact (show False from r).elim
    | some _ => rfl
theorem KV.val {kvs : List (κ × V)} {vs : List (κ × Value)} (r : KV kvs vs) (k : κ) : RelO (valV kvs k) (valueAt vs k) := by
  unfold KV at r
  induction r with
  | nil => exact True.intro
  | @cons p q ps qs h t ih =>
    obtain ⟨h1, h2⟩ := h
    by_cases e : p.1 = k
    · have e' : q.1 = k := h1.symm.trans e
      have b : valueAt (q :: qs) k = some q.2 := by simp [valueAt, List.find?_cons, e']
      rw [valV_pos e, b]; exact h2
    · have e' : ¬ q.1 = k := fun z => e (h1.trans z)
      have b : valueAt (q :: qs) k = valueAt qs k := by simp [valueAt, List.find?_cons, e']
      rw [valV_neg e, b]; exact ih
theorem KV.any {kvs : List (κ × V)} {vs : List (κ × Value)} (r : KV kvs vs) (k : κ) : (kvs.any fun kv => decide (kv.1 = k)) = vs.any fun kv => decide (kv.1 = k) := by
  unfold KV at r
  induction r with
  | nil => rfl
  | cons h t ih => rw [List.any_cons, List.any_cons, ih, h.1]
theorem KV.repl {kvs : List (κ × V)} {vs : List (κ × Value)} (r : KV kvs vs) (k : κ) {y : V} {u : Value} (ry : RelV y u) :
    KV (kvs.map fun kv => if kv.1 = k then (kv.1, y) else kv) (vs.map fun kv => if kv.1 = k then (kv.1, u) else kv) := by
  unfold KV at r ⊢
  induction r with
  | nil => exact .nil
  | @cons p q ps qs h t ih =>
    rw [List.map_cons, List.map_cons]
    refine .cons ?_ ih
    obtain ⟨h1, h2⟩ := h
    by_cases e : p.1 = k
    · rw [if_pos e, if_pos (h1.symm.trans e)]; exact ⟨h1, ry⟩
    · rw [if_neg e, if_neg (fun z => e (h1.trans z))]; exact ⟨h1, h2⟩
theorem KV.put {kvs : List (κ × V)} {vs : List (κ × Value)} (r : KV kvs vs) (k : κ) {y : V} {u : Value} (ry : RelV y u) : KV (putK kvs k y) (stored vs k u) := by
  unfold putK stored
  rw [r.any k]
  by_cases e : (vs.any fun kv => decide (kv.1 = k)) = true
  · rw [if_pos e, if_pos e]; exact r.repl k ry
  · rw [if_neg e, if_neg e]; exact Paired.snoc r ⟨rfl, ry⟩
theorem KV.drop {kvs : List (κ × V)} {vs : List (κ × Value)} (r : KV kvs vs) (k : κ) : KV (dropK kvs k) (without vs k) := by
  unfold KV at r ⊢
  unfold dropK without
  induction r with
  | nil => exact .nil
  | @cons p q ps qs h t ih =>
    obtain ⟨h1, h2⟩ := h
    rw [List.filter_cons, List.filter_cons]
    by_cases e : p.1 = k
    · have a : ¬ decide (p.1 ≠ k) = true := by simp [e]
      have b : ¬ decide (q.1 ≠ k) = true := by simp [h1.symm.trans e]
      rw [if_neg a, if_neg b]; exact ih
    · have e' : ¬ q.1 = k := fun z => e (h1.trans z)
      have a : decide (p.1 ≠ k) = true := by simp [e]
      have b : decide (q.1 ≠ k) = true := by simp [e']
      rw [if_pos a, if_pos b]; exact .cons ⟨h1, h2⟩ ih
theorem KV.length {kvs : List (κ × V)} {vs : List (κ × Value)} (r : KV kvs vs) : kvs.length = vs.length := Paired.length r
theorem dropK_le (kvs : List (κ × V)) (k : κ) : (dropK kvs k).length ≤ kvs.length := List.length_filter_le _ _
end
theorem kV_is {P : Program} {w : World} {k : Key} {u : Value} (r : RelV (kV k) u) : (mixKind P w).is k u = true := by
  cases k with
  | inl i => obtain ⟨t, e⟩ := (show ∃ t, u = Value.int i t from r); subst e; exact mixKind_int P w i t
  | inr x => obtain ⟨t, e⟩ := (show ∃ t, u = Value.str x t from r); subst e; exact mixKind_str P w x t
theorem items_are {P : Program} {w : World} : ∀ {ks : List Key} {us : List Value}, Vals (ks.map kV) us → ItemsAre (mixKind P w) ks us
  | [], _, r => by rw [List.map_nil] at r; cases r; exact .nil
  | k :: ks, _, r => by
    rw [List.map_cons] at r
    cases r with
    | cons h t => exact .cons (kV_is h) (items_are t)
abbrev KT (H : Hp) : List (List Key × V) → List (List Key × Addr × Value) → Prop := Paired fun p q => p.1 = q.1 ∧ H q.2.1 = some (.tup (p.1.map kV)) ∧ RelV p.2 q.2.2
theorem KT.val {H : Hp} {kvs : List (List Key × V)} {xs : List (List Key × Addr × Value)} (r : KT H kvs xs) (k : List Key) : RelO (valV kvs k) ((atKey xs k).map (·.2)) := by
  induction r with
  | nil => exact True.intro
  | @cons p q ps qs h t ih =>
    obtain ⟨h1, _, h2⟩ := h
    by_cases e : p.1 = k
    · have e' : q.1 = k := h1.symm.trans e
      have b : atKey (q :: qs) k = some q.2 := by simp [atKey, List.find?_cons, e']
      rw [valV_pos e, b]; exact h2
    · have e' : ¬ q.1 = k := fun z => e (h1.trans z)
      have b : atKey (q :: qs) k = atKey qs k := by simp [atKey, List.find?_cons, e']
      rw [valV_neg e, b]; exact ih
theorem KT.repl {H : Hp} {kvs : List (List Key × V)} {xs : List (List Key × Addr × Value)} (r : KT H kvs xs) (k : List Key) {y : V} {u : Value} (ry : RelV y u) :
    KT H (kvs.map fun kv => if kv.1 = k then (kv.1, y) else kv) (xs.map (putAt k u)) := by
  induction r with
  | nil => exact .nil
  | @cons p q ps qs h t ih =>
    rw [List.map_cons, List.map_cons]
    refine .cons ?_ ih
    obtain ⟨h1, h2, h3⟩ := h
    unfold putAt
    by_cases e : p.1 = k
    · rw [if_pos e, if_pos (h1.symm.trans e)]; exact ⟨h1, h2, ry⟩
    · rw [if_neg e, if_neg (fun z => e (h1.trans z))]; exact ⟨h1, h2, h3⟩
theorem KT.put {H : Hp} {kvs : List (List Key × V)} {xs : List (List Key × Addr × Value)} (r : KT H kvs xs) (k : List Key) {b : Addr} {y : V} {u : Value} (hb : H b = some (.tup (k.map kV))) (ry : RelV y u) :
    KT H (putK kvs k y) (storedH xs k b u) := by
  have e : (kvs.any fun kv => decide (kv.1 = k)) = (atKey xs k).isSome := by
    rw [valV_any, (r.val k).isSome_eq, Option.isSome_map]
  unfold putK storedH
  rw [e]
  by_cases q : (atKey xs k).isSome = true
  · rw [if_pos q, if_pos q]; exact r.repl k ry
  · rw [if_neg q, if_neg q]; exact Paired.snoc r ⟨rfl, hb, ry⟩
theorem KT.keeps {H H' : Hp} {kvs : List (List Key × V)} {xs : List (List Key × Addr × Value)} (r : KT H kvs xs) (ht : ∀ b ys, H b = some (.tup ys) → H' b = some (.tup ys)) : KT H' kvs xs :=
  Paired.mapP r fun _ _ z => ⟨z.1, ht _ _ z.2.1, z.2.2⟩
section
variable {P : Program} {w : World} {H : Hp} {h : Heap} {a : Addr}
theorem rd_of {u : HO} (ok : HOk P w H h) (e : Rd H a u) : ObjOk P w H h a u := e.ok ok
theorem dk_rd {kvs : List (Key × V)} (ok : HOk P w H h) (e : Rd H a (.dK kvs)) : kvs.length ≤ sizeLine ∧ (a == sysModules) = false ∧ ∃ vs, KV kvs vs ∧ h.DictOf (mixKind P w) a vs :=
  show ObjOk P w H h a (.dK kvs) from rd_of ok e
theorem dk_of {kvs : List (Key × V)} (ok : HOk P w H h) (e : H a = some (.dK kvs)) : kvs.length ≤ sizeLine ∧ (a == sysModules) = false ∧ ∃ vs, KV kvs vs ∧ h.DictOf (mixKind P w) a vs := dk_rd ok (.inl e)
theorem key_of {ks : List Key} (ok : HOk P w H h) (e : H a = some (.tup (ks.map kV))) : (tupleKind (mixKind P w)).is h ks a := by
  obtain ⟨_, its, r, o, h1, h2, n, h3⟩ := (show ObjOk P w H h a (.tup (ks.map kV)) from ok a _ e)
  exact ⟨o, its.toArray, n, h1, h2, h3, by simpa using items_are r⟩
theorem dt_rd {kvs : List (List Key × V)} (ok : HOk P w H h) (e : Rd H a (.dT kvs)) : kvs.length ≤ sizeLine ∧ (a == sysModules) = false ∧
    ∃ xs, KT H kvs xs ∧ h.DictOfH (tupleKind (mixKind P w)) a xs := by
  obtain ⟨z, y, xs, r, o, es, ep, h1, h2, h3, h4, h5⟩ := (show ObjOk P w H h a (.dT kvs) from rd_of ok e)
  refine ⟨z, y, xs, r, o, es, ep, h1, h2, h3, h4, fun x hx => ?_, h5⟩
  have all : ∀ {l : List (List Key × V)} {m : List (List Key × Addr × Value)}, KT H l m → ∀ x ∈ m, (tupleKind (mixKind P w)).is h x.1 x.2.1 := by
    intro l m q
    induction q with
    | nil => intro x hx; exact nomatch hx
    | @cons p q ps qs hq t ih =>
      intro x hx
      rcases List.mem_cons.mp hx with e | hx
      · subst e
        exact key_of ok (by rw [← hq.1]; exact hq.2.1)
      · exact ih x hx
  exact all r x hx
theorem dt_of {kvs : List (List Key × V)} (ok : HOk P w H h) (e : H a = some (.dT kvs)) : kvs.length ≤ sizeLine ∧ (a == sysModules) = false ∧
    ∃ xs, KT H kvs xs ∧ h.DictOfH (tupleKind (mixKind P w)) a xs := dt_rd ok (.inl e)
end
def DGet (H : Hp) (a : Addr) (y : V) (r : Option V) : Prop :=
  (∃ kvs k, Rd H a (.dK kvs) ∧ y = kV k ∧ r = valV kvs k) ∨ ∃ kvs k b, Rd H a (.dT kvs) ∧ y = .ref b ∧ H b = some (.tup (k.map kV)) ∧ r = valV kvs k
def DPut (H : Hp) (a : Addr) (y v : V) (H' : Hp) : Prop :=
  (∃ kvs k, H a = some (.dK kvs) ∧ y = kV k ∧ kvs.length < sizeLine ∧ H' = upd H a (.dK (putK kvs k v))) ∨
  ∃ kvs k b, H a = some (.dT kvs) ∧ y = .ref b ∧ H b = some (.tup (k.map kV)) ∧ kvs.length < sizeLine ∧ H' = upd H a (.dT (putK kvs k v))
theorem DGet.k {H : Hp} {a : Addr} {kvs : List (Key × V)} {k : Key} (e : H a = some (.dK kvs)) : DGet H a (kV k) (valV kvs k) := .inl ⟨kvs, k, .inl e, rfl, rfl⟩
theorem DPut.k {H : Hp} {a : Addr} {kvs : List (Key × V)} {k : Key} {v : V} (e : H a = some (.dK kvs)) (hl : kvs.length < sizeLine) : DPut H a (kV k) v (upd H a (.dK (putK kvs k v))) := .inl ⟨kvs, k, e, rfl, hl, rfl⟩
section
variable {X : Cx} {pins : List (Addr × Obj)} {σ : St} {H : Hp} {s : Shared} {a : Addr} {y v : V} {u r : Value} {o : Option V} {A : Around} {E : Value → Shared → Prop}
theorem Inv.big (I : Inv X pins σ H s) : sysModules < s.heap.objs.size := by
  have h : mainGlobals < s.heap.objs.size := (I.mod.glob.keeps I.bk).lt
  exact Nat.lt_trans (by decide) h
theorem d_getItem {Q : Value → Shared → Prop} (hu : A.units + 1 < cLine) (I : Inv X pins σ H s) (g : DGet H a y (some v)) (ry : RelV y u) (h : ∀ w' s', Inv X pins σ H s' → RelV v w' → Q w' s') :
    wpAny (model X.prog X.w) A (getItem (.ref a) u) Q E s := by
  rcases g with ⟨kvs, k, e, ey, l⟩ | ⟨kvs, k, b, e, ey, eb, l⟩
  · subst ey
    obtain ⟨z, hd, vs, rel, dd⟩ := dk_rd I.hok e
    obtain ⟨w', hw, rw'⟩ := RelO.some_of (v := v) (o := valueAt vs k) (by rw [l]; exact rel.val k)
    exact wpAny_getItem_of (kV_is ry) dd.mapOf hw (h w' _ (I.tok _) rw')
  · subst ey
    cases (show u = Value.ref b from ry)
    obtain ⟨z, hd, xs, rel, dd⟩ := dt_rd I.hok e
    obtain ⟨w', hw, rw'⟩ := RelO.some_of (v := v) (o := (atKey xs k).map (·.2)) (by rw [l]; exact rel.val k)
    obtain ⟨p, hp, hp2⟩ := Option.map_eq_some_iff.mp hw
    refine wpAny_getItem_heap (tupleKind_room_in1 hu) (key_of I.hok eb) dd hp ?_
    rw [hp2]
    exact h w' _ (I.tok _) rw'
theorem d_notIn {Q : Value → Shared → Prop} (hu : A.units + 1 < cLine) (I : Inv X pins σ H s) (g : DGet H a y o) (ry : RelV y u) (h : ∀ s', Inv X pins σ H s' → Q (.bool (!o.isSome)) s') :
    wpAny (model X.prog X.w) A (compareOp .NotIn u (.ref a)) Q E s := by
  rcases g with ⟨kvs, k, e, ey, l⟩ | ⟨kvs, k, b, e, ey, eb, l⟩
  · subst ey
    obtain ⟨z, hd, vs, rel, dd⟩ := dk_rd I.hok e
    refine wpAny_notIn_of (kV_is ry) hd dd.mapOf ?_
    rw [← (rel.val k).isSome_eq, ← l]
    exact h _ (I.tok _)
  · subst ey
    cases (show u = Value.ref b from ry)
    obtain ⟨z, hd, xs, rel, dd⟩ := dt_rd I.hok e
    refine wpAny_notIn_heap (tupleKind_room_in1 hu) (key_of I.hok eb) hd dd ?_
    have q := (rel.val k).isSome_eq
    rw [Option.isSome_map] at q
    rw [← q, ← l]
    exact h _ (I.tok _)
theorem d_write {h' : Heap} {t' : Nat} {ob : HO} (I : Inv X pins σ H s) (mu : Mut (H a)) (hs : Heap.SameBut a s.heap h') (he : ∃ q, h'.get? a = some q) (new : ObjOk X.prog X.w (upd H a ob) h' a ob) :
    Inv X pins σ (upd H a ob) { s with heap := h', toks := t' } :=
  I.write (x := a) (e := a) mu (.inl rfl) (fun b q hb z => (hs.2 b hb).trans z) he new
theorem dk_new {P : Program} {w : World} {H' : Hp} {h' : Heap} {kvs : List (Key × V)} {vs : List (Key × Value)} (z : kvs.length ≤ sizeLine) (hd : (a == sysModules) = false) (rel : KV kvs vs) (dd : h'.DictOf (mixKind P w) a vs) :
    ObjOk P w H' h' a (.dK kvs) := ⟨z, hd, vs, rel, dd⟩
theorem d_setItem {H' : Hp} {Q : Unit → Shared → Prop} (hu : A.units + 1 < cLine) (I : Inv X pins σ H s) (g : DPut H a y v H') (ry : RelV y u) (rv : RelV v r) (h : ∀ s', Inv X pins σ H' s' → Q () s') :
    wpAny (model X.prog X.w) A (setItem (.ref a) u r) Q E s := by
  rcases g with ⟨kvs, k, e, ey, l, eH⟩ | ⟨kvs, k, b, e, ey, eb, l, eH⟩
  · subst ey eH
    obtain ⟨z, hd, vs, rel, dd⟩ := dk_of I.hok e
    have hz : vs.length ≤ sizeLine := by rw [← rel.length]; exact z
    have hl : (putK kvs k v).length ≤ sizeLine := by have := length_putK kvs k v; omega
    refine wpAny_setItem_pairs (hsz := hz) (kV_is ry) dd fun h' dd' hs => h _ ?_
    have he : ∃ q, h'.get? a = some q := let ⟨q, _, _, hq, _⟩ := dd'; ⟨q, hq⟩
    exact d_write I (by rw [e]; exact True.intro) hs he (dk_new hl hd (rel.put k rv) dd')
  · subst ey eH
    cases (show u = Value.ref b from ry)
    obtain ⟨z, hd, xs, rel, dd⟩ := dt_of I.hok e
    have hz : xs.length ≤ sizeLine := by rw [← Paired.length rel]; exact z
    have hl : (putK kvs k v).length ≤ sizeLine := by have := length_putK kvs k v; omega
    refine wpAny_setItem_heap (hsz := hz) (tupleKind_room_in1 hu) (key_of I.hok eb) dd fun h' dd' hs => h _ ?_
    obtain ⟨q, es, ep, hq, h2, h3, h4, _, h5⟩ := dd'
    refine d_write I (by rw [e]; exact True.intro) hs ⟨q, hq⟩ ⟨hl, hd, _, (rel.put k eb rv).keeps fun c ys ec => ?_, q, es, ep, hq, h2, h3, h4, h5⟩
    rw [upd_ne (ne_of ec e (fun z => nomatch z))]
    exact ec
end
section
variable {X : Cx} {pins : List (Addr × Obj)} {σ : St} {H : Hp} {s : Shared} {a : Addr} {kvs : List (Key × V)} {k : Key} {u : Value} {A : Around} {E : Value → Shared → Prop}
theorem d_pop {v : V} {more : List Value} {Q : Value → Shared → Prop} (I : Inv X pins σ H s) (e : H a = some (.dK kvs)) (ry : RelV (kV k) u) (l : valV kvs k = some v) (hm : more = [] ∨ ∃ x, more = [x])
    (h : ∀ w' s', Inv X pins σ (upd H a (.dK (dropK kvs k))) s' → RelV v w' → Q w' s') : wpAny (model X.prog X.w) A (call (.builtin "dict.pop") (.ref a :: u :: more)) Q E s := by
  obtain ⟨z, hd, vs, rel, dd⟩ := dk_of I.hok e
  obtain ⟨w', hw, rw'⟩ := RelO.some_of (v := v) (o := valueAt vs k) (by rw [← l]; exact rel.val k)
  have hp : (keyPart u).isSome = true := by
    cases k with
    | inl i => obtain ⟨t, q⟩ := (show ∃ t, u = Value.int i t from ry); subst q; rfl
    | inr x => obtain ⟨t, q⟩ := (show ∃ t, u = Value.str x t from ry); subst q; rfl
  have ha : argsOk "dict.pop" ⟨.ref a :: u :: more, []⟩ := by
    rcases hm with q | ⟨x, q⟩
    · subst q; exact PySem.F.args_dict_pop_2 _ _
    · subst q; exact PySem.F.args_dict_pop_3 _ _ _
  refine call_meetsIn PySem.F.slot_dict_pop dd.typeIs PySem.F.entry_dict_pop ha (meets_dict_pop_there (mixKind X.prog X.w) a (kV_is ry) more hm hp)
    ⟨vs, w', dd, by rw [← rel.length]; exact z, hw, fun h' dd' hs => h w' _ ?_ rw'⟩
  have he : ∃ q, h'.get? a = some q := let ⟨q, _, _, hq, _⟩ := dd'; ⟨q, hq⟩
  exact d_write I (by rw [e]; exact True.intro) hs he (dk_new (Nat.le_trans (dropK_le kvs k) z) hd (rel.drop k) dd')
end
def NoSl (i : Expr) : Prop := ∀ ov iv, subscripted i false ov iv = operate [ov, iv] (getItem ov iv)
theorem subD_of {prog : Program} {w : World} {A : Around} {E : Value → Shared → Prop} {s : Shared} {env : Env} {value slice : Expr} {pos : Pos} {T id : String} {Q : Value → Shared → Prop}
    (hl : typeLookup (.type T) "__getitem__" = pure (some (.builtin id))) (hs : NoSl slice)
    (h : wpAny (model prog w) A (eval value env) (fun o s₁ => wpAny (model prog w) A (eval slice env) (fun i s₂ => s₂.TypeIs o T ∧ wpAny (model prog w) A (getItem o i) Q E s₂) E s₁) E s) :
    wpAny (model prog w) A (eval (.Subscript value slice pos) env) Q E s := by
  refine Subscript_ (wpAny_mono h (fun o s₁ h₁ => wpAny_mono h₁ (fun i s₂ h₂ => ?_) fun _ _ x => x) fun _ _ x => x)
  obtain ⟨hT, h₂⟩ := h₂
  unfold subscriptTail
  refine wpAny_bind ?_
  rw [getitemInPython_of_ne hT.not_modules]
  refine wpAny_bind (wpAny_specialOf hT hl ?_)
  have fin : wpAny (model prog w) A (subscripted slice false o i) (fun r s₃ => wpAny (model prog w) A (letTemporaryGo value o r >>= fun _ => pure r) Q E s₃) E s₂ := by
    rw [hs o i]
    exact wpAny_operating (wpAny_mono h₂ (fun r s₃ h₃ => wpAny_bind (wpAny_letTemporaryGo (wpAny_pure h₃))) fun _ _ x => x)
  first
    | exact wpAny_pure (wpAny_bind fin)
    | exact wpAny_bind (wpAny_pure (wpAny_bind fin))
    | exact wpAny_bind fin
theorem dict_typeIs {X : Cx} {pins : List (Addr × Obj)} {σ : St} {H : Hp} {s : Shared} {a : Addr} {y : V} {o : Option V} (I : Inv X pins σ H s) (g : DGet H a y o) : s.TypeIs (.ref a) "dict" := by
  rcases g with ⟨kvs, k, e, _, _⟩ | ⟨kvs, k, b, e, _, _, _⟩
  · obtain ⟨_, _, vs, _, dd⟩ := dk_rd I.hok e
    exact dd.typeIs
  · obtain ⟨_, _, xs, _, dd⟩ := dt_rd I.hok e
    exact dd.typeIs
def tDGet (td ty : TE) : TE := fun σ H Q => td σ H fun x H1 => ty σ H1 fun y H2 => ∃ a v, x = .ref a ∧ DGet H2 a y (some v) ∧ Q v H2
def tDNotIn (ty td : TE) : TE := fun σ H Q => ty σ H fun y H1 => td σ H1 fun x H2 => ∃ a o, x = .ref a ∧ DGet H2 a y o ∧ Q (.bl (!o.isSome)) H2
def sDPut (td ty tv : TE) : TS := fun D σ H => tv σ H fun v H1 => td σ H1 fun x H2 => ty σ H2 fun y H3 => ∃ a H4, x = .ref a ∧ DPut H3 a y v H4 ∧ D.nx σ H4
section
variable {X : Cx} {o i e value : Expr} {pos pos' tpos : Pos} {td ty tv : TE}
theorem pe_dget (hu : X.A.units + 1 < cLine) (ho : PE X o td) (hi : PE X i ty) (hs : NoSl i) : PE X (.Subscript o i pos) (tDGet td ty) := by
  intro pins s σ H Q I h
  refine subD_of PySem.F.slot_dict_getitem.lookup hs (thn (ho pins s σ H _ I h) fun u s1 ⟨x, H1, I1, rx, q1⟩ => thn (hi pins s1 σ H1 _ I1 q1) fun iv s2 ⟨y, H2, I2, ry, a, v, ex, g, q2⟩ => ?_)
  subst ex
  obtain rfl : u = Value.ref a := rx
  exact ⟨dict_typeIs I2 g, d_getItem hu I2 g ry fun w' s3 I3 rw' => ⟨v, H2, I3, rw', q2⟩⟩
theorem pc_dnotin (hu : X.A.units + 1 < cLine) (hi : PE X i ty) (ho : PE X o td) : PC X .NotIn i o (tDNotIn ty td) := by
  intro pins s σ H Q I h
  refine thn (hi pins s σ H _ I h) fun iv s1 ⟨y, H1, I1, ry, q1⟩ => thn (ho pins s1 σ H1 _ I1 q1) fun u s2 ⟨x, H2, I2, rx, a, ov, ex, g, q2⟩ => ?_
  subst ex
  obtain rfl : u = Value.ref a := rx
  exact d_notIn hu I2 g ry fun s3 I3 => ⟨.bl (!ov.isSome), H2, I3, rfl, q2⟩
theorem ps_dput (hu : X.A.units + 1 < cLine) (ho : PE X o td) (hi : PE X i ty) (hv : PE X value tv) (hs : swapsWith value (some (.Subscript o i pos')) pos.line X.env = pure false) :
    PS X (.Assign [.Subscript o i pos'] value pos) (sDPut td ty tv) := by
  intro pins s σ H D I h
  refine wpAny_Assign_Subscript (thn (hv pins s σ H _ I h) fun r s1 ⟨v, H1, I1, rv, q1⟩ => thn (ho pins s1 σ H1 _ I1 q1) fun u s2 ⟨x, H2, I2, rx, q2⟩ => thn (hi pins s2 σ H2 _ I2 q2) fun iv s3 ⟨y, H3, I3, ry, a, H4, ex, g, q3⟩ => ?_) hs
  subst ex
  obtain rfl : u = Value.ref a := rx
  exact d_setItem hu I3 g ry rv fun s4 I4 => ⟨σ, H4, I4, q3⟩
end
theorem dk_empty {P : Program} {w : World} {H : Hp} (h : Heap) (hb : sysModules < h.objs.size) : ObjOk P w H (h.push { cls := .type "dict", data := .dict #[] }) h.objs.size (.dK []) :=
  ⟨Nat.zero_le _, beq_eq_false_iff_ne.mpr (Ne.symm (Nat.ne_of_lt hb)), [], .nil, Heap.DictOf.new h⟩
def tDNewK : TE := fun _ H Q => ∀ p, H p = none → Q (.ref p) (upd H p (.dK []))
section
variable {X : Cx} {pos : Pos}
theorem pe_dnewK : PE X (.Dict [] [] pos) tDNewK := fun pins s σ H Q I h =>
  wpAny_Dict_empty ⟨.ref s.heap.objs.size, _, I.laid (a := s.heap.objs.size) (o := .dK []) (t' := s.toks) (fun _ _ q => Heap.get?_push_of_some _ q) (Nat.le_refl _) (dk_empty s.heap I.big), rfl, h _ (I.hok.fresh (Nat.le_refl _))⟩
end
structure M1 (X : Cx) (o : Expr) (m : Str) (apos : Pos) (e : Expr) (cpos : Pos) : Prop where
  base : attributeBase o m X.env (eval o X.env) = eval o X.env
  few : ((backTo cpos (starEach [e] X.env)).all (fun x => !x.1) && (backToKw cpos (keywordEach [] X.env)).all (fun x => x.1.isSome)
    && decide (([e] : List Expr).length + ([] : List Keyword).length + (if ([] : List Keyword).isEmpty then 0 else 1) < 30)) = true
  line : (apos.endLine == cpos.line) = true
  trees : backTo cpos (starEach [e] X.env) = [(false, eval e X.env)]
structure M2 (X : Cx) (o : Expr) (m : Str) (apos : Pos) (e f : Expr) (cpos : Pos) : Prop where
  base : attributeBase o m X.env (eval o X.env) = eval o X.env
  few : ((backTo cpos (starEach [e, f] X.env)).all (fun x => !x.1) && (backToKw cpos (keywordEach [] X.env)).all (fun x => x.1.isSome)
    && decide (([e, f] : List Expr).length + ([] : List Keyword).length + (if ([] : List Keyword).isEmpty then 0 else 1) < 30)) = true
  line : (apos.endLine == cpos.line) = true
  trees : backTo cpos (starEach [e, f] X.env) = [(false, eval e X.env), (false, eval f X.env)]
def IsD (H : Hp) (a : Addr) : Prop := (∃ kvs, Rd H a (.dK kvs)) ∨ ∃ kvs, Rd H a (.dT kvs)
theorem isD_at {X : Cx} {pins : List (Addr × Obj)} {σ : St} {H : Hp} {s : Shared} {a : Addr} (I : Inv X pins σ H s) (d : IsD H a) :
    s.TypeIs (.ref a) "dict" ∧ (∀ b, Value.ref a = .ref b → ∃ ob, s.heap.get? b = some ob ∧ ob.dict = none) ∧ (a == sysModules) = false := by
  rcases d with ⟨kvs, e⟩ | ⟨kvs, e⟩
  · obtain ⟨_, hd, vs, _, dd⟩ := dk_rd I.hok e
    refine ⟨dd.typeIs, fun b q => ?_, hd⟩
    cases q
    obtain ⟨ob, _, _, h1, h2, _⟩ := dd
    exact ⟨ob, h1, h2.2.1⟩
  · obtain ⟨_, hd, xs, _, dd⟩ := dt_rd I.hok e
    refine ⟨dd.typeIs, fun b q => ?_, hd⟩
    cases q
    obtain ⟨ob, _, _, h1, h2, _⟩ := dd
    exact ⟨ob, h1, h2.2.1⟩
section
variable {X : Cx} {pins : List (Addr × Obj)} {σ : St} {H : Hp} {s : Shared} {a : Addr} {y d : V} {u r : Value} {o : Option V} {A : Around} {E : Value → Shared → Prop}
end
def tDPop1 (td ty : TE) : TE := fun σ H Q => td σ H fun x H1 => ∃ a, x = .ref a ∧ IsD H1 a ∧ ty σ H1 fun y H2 => ∃ kvs k v, H2 a = some (.dK kvs) ∧ y = kV k ∧ valV kvs k = some v ∧ Q v (upd H2 a (.dK (dropK kvs k)))
section
variable {X : Cx} {o e f : Expr} {apos cpos : Pos} {td ty tx : TE}
theorem pe_dpop1 (ho : PE X o td) (he : PE X e ty) (m : M1 X o "pop" apos e cpos) : PE X (.Call (.Attribute o "pop" apos) [e] [] cpos) (tDPop1 td ty) := by
  intro pins s σ H Q I h
  refine wpAny_Call_method m.base m.few m.line PySem.F.plainAttrs_dict PySem.F.slot_dict_pop PySem.F.type_dict_pop (thn (ho pins s σ H _ I h) fun u s1 ⟨x, H1, I1, rx, a, ex, d, q1⟩ => ?_)
  subst ex
  obtain rfl : u = Value.ref a := rx
  obtain ⟨t1, t2, _⟩ := isD_at I1 d
  refine ⟨t1, t2, ?_⟩
  rw [m.trees]
  refine Calls.callWith_builtin rfl (Calls.evalArgs_plain (Calls.spliced_cons (thn (he pins s1 σ H1 _ I1 q1) fun iv s2 ⟨y, H2, I2, ry, kvs, k, v, ea, ey, l, q2⟩ => Calls.spliced_nil ?_)))
  subst ey
  exact d_pop I2 ea ry l (.inl rfl) fun w' s3 I3 rw' => ⟨v, _, I3, rw', q2⟩
end
section
variable {X : Cx} {pins : List (Addr × Obj)} {σ : St} {H : Hp} {s : Shared} {a : Addr} {kvs : List (Key × V)} {A : Around} {E : Value → Shared → Prop}
end
section
variable {X : Cx} {pins : List (Addr × Obj)} {σ : St} {H : Hp} {s : Shared} {a : Addr} {y : V} {u : Value} {A : Around} {E : Value → Shared → Prop}
end
end L2
set_option maxHeartbeats 4000000
namespace L2
open PySem PySem.Spec PyProof.Rows PySem.W
theorem kwp_at {α : Type} {K0 : Nat → Int} {n : Nat} {cmp' : Nat → Nat → (Bool → Shared → Prop) → Shared → Prop} {Q : α → Shared → Prop} {s : Shared} (hc : ∀ i j C, i < n → j < n → i ≠ j → C (decide (K0 i < K0 j)) s → cmp' i j C s) : ∀ (t : KasT α), t.kasWp (cmp0 K0 n) Q s → t.kasWp cmp' Q s
  | .ret a, h => h
  | .ask i j k, h => hc i j _ h.1 h.2.1 h.2.2.1 (kwp_at hc (k _) h.2.2.2)
def ordL {α : Type} (vs : List α) (d : α) (p : Array Nat) : List α := p.toList.map fun i => vs.getD i d
theorem range_pm (n : Nat) : Pm (List.toArray (List.range n)) n ∧ ∀ i, i < n → gN (List.toArray (List.range n)) i = i := by
  have g : ∀ i, i < n → gN (List.toArray (List.range n)) i = i := fun i hi => by
    unfold gN
    simp [Array.getD, hi]
  exact ⟨⟨by simp, fun i hi => by rw [g i hi]; exact hi, fun i j hi hj e => by rw [g i hi, g j hj] at e; exact e⟩, g⟩
theorem ord_range {α : Type} (vs : List α) (d : α) : ordL vs d (List.toArray (List.range vs.length)) = vs := by
  unfold ordL
  apply List.ext_getElem?
  intro i
  rw [List.getElem?_map]
  by_cases hi : i < vs.length
  · simp [hi]
  · simp [hi, Nat.le_of_not_lt hi]
section
variable {prog : Program} {w : World} {A : Around} {E : Value → Shared → Prop} {s : Shared} {K0 : Nat → Int} {n : Nat}
theorem list_sort_any {a : Addr} {vs : List Value} {e : Nat} {P : Fin → Shared → Prop} (ho : s.heap.get? a = some (seqObj "list" vs.toArray e)) (hl : vs.length = n) (hN : n < 64)
    (hK : ∀ i j, i < n → j < n → K0 i = K0 j → i = j) (hv : ∀ i, i < n → ∃ v, vs[i]? = some v ∧ PairK s.heap v (K0 i))
    (h : ∀ p, Pm p n → Asc K0 p n → P (.done (.ret .none)) { s with heap := sortedHeap s.heap a vs (ordL vs .none p).toArray }) :
    wpAny (model prog w) A (Builtin.«list.sort» ⟨[.ref a], []⟩) P E s := by
  rw [list_sort_plain]
  have hbig : vs.length ≤ sizeLine := by rw [sizeLine_eq]; omega
  have ha : a < s.heap.objs.size := Heap.lt_size ho
  refine wpAny_bind (listItems_at ho rfl ?_)
  refine wpAny_bind (listUpdate_at ho rfl ?_ (by simpa using hbig) (by show 0 ≤ _; omega))
  obtain ⟨e1, ho1⟩ : ∃ e1, (s.heap.update a (Obj.mapSeq fun _ => #[])).get? a = some (seqObj "list" #[] e1) := ⟨_, get?_update_seq ho (fun _ => #[])⟩
  refine wpAny_bind (seqEpoch_at ho1 rfl ?_)
  refine wpAny_bind (wpAny_newTuple (hsz := by simpa using hbig) ?_)
  refine wpAny_bind (wpAny_newList ?_)
  refine wpAny_holding ?_
  have ho6 : (((s.heap.update a (Obj.mapSeq fun _ => #[])).push (seqObj "tuple" vs.toArray 0)).push (seqObj "list" #[] 0)).get? a = some (seqObj "list" #[] e1) := by
    rw [Heap.get?_push_ne _ _ _ (by rw [size_push', Heap.size_update]; exact Nat.ne_of_lt (Nat.lt_succ_of_lt ha)), Heap.get?_push_ne _ _ _ (by rw [Heap.size_update]; exact Nat.ne_of_lt ha)]
    exact ho1
  show wpAny (model prog w) A _ P E { s with heap := ((s.heap.update a (Obj.mapSeq fun _ => #[])).push (seqObj "tuple" vs.toArray 0)).push (seqObj "list" #[] 0) }
  dsimp only
  have hsz : vs.toArray.size = vs.length := by simp
  have hv' : ∀ i, i < n → ∃ v, vs[i]? = some v ∧ PairK (((s.heap.update a (Obj.mapSeq fun _ => #[])).push (seqObj "tuple" vs.toArray 0)).push (seqObj "list" #[] 0)) v (K0 i) := fun i hi => by
    obtain ⟨v, ev, b, o, x, t, u, m, rfl, hb, hc, hd⟩ := hv i hi
    refine ⟨_, ev, b, o, x, t, u, m, rfl, ?_, hc, hd⟩
    have hne : b ≠ a := by
      rintro rfl
      rw [ho] at hb
      have := Option.some.inj hb
      subst this
      exact absurd hc (by simp)
    exact Heap.get?_push_of_some _ (Heap.get?_push_of_some _ (by rw [Heap.get?_update_ne _ _ _ _ hne]; exact hb))
  have hol : ∀ p : Array Nat, p.size = n → (ordL vs .none p).length ≤ sizeLine := fun p hp => by
    unfold ordL
    rw [List.length_map, Array.length_toList, hp, sizeLine_eq]
    omega
  by_cases h2 : vs.toArray.size < 2
  · rw [if_pos h2, if_pos h2]
    refine wpAny_bind (wpAny_pure ?_)
    rw [StateT.run_pure]
    refine wpAny_bind (wpAny_pure ?_)
    dsimp only
    obtain ⟨pm, pg⟩ := range_pm n
    have eo : (arrOf (SortSt.mk' general' (vs.toArray.zip vs.toArray) #[] 7 none)).map (·.2) = (ordL vs .none (List.toArray (List.range n))).toArray := by
      show (vs.toArray.zip vs.toArray).map (·.2) = _
      rw [← hl, ord_range]
      apply Array.toList_inj.mp
      have zz : ∀ l : List Value, (l.zip l).map (·.2) = l := fun l => by
        induction l with
        | nil => rfl
        | cons a l ih => rw [List.zip_cons_cons, List.map_cons, ih]
      rw [Array.toList_map, Array.toList_zip]
      exact zz vs
    rw [eo]
    refine wpAny_bind (seqEpoch_at ho6 rfl ?_)
    refine wpAny_bind (listUpdate_at ho6 rfl ?_ (by show 0 ≤ _; omega) (by rw [List.size_toArray]; have := hol (List.toArray (List.range n)) pm.sz; exact Nat.le_succ_of_le this))
    simp only [bne_self_eq_false, Bool.false_eq_true, if_false]
    exact wpAny_pure (h _ pm fun i j hij hj => by omega)
  · rw [if_neg h2, if_neg h2]
    have hfs : ∃ fs : List Value, fs.length = vs.length ∧ PySem.W.KatTups (((s.heap.update a (Obj.mapSeq fun _ => #[])).push (seqObj "tuple" vs.toArray 0)).push (seqObj "list" #[] 0)) vs fs ∧ ∀ v ∈ fs, ∃ (k : Int) (t : Tok), v = Value.int k t := by
      have hall : ∀ v ∈ vs, ∃ k, PairK (((s.heap.update a (Obj.mapSeq fun _ => #[])).push (seqObj "tuple" vs.toArray 0)).push (seqObj "list" #[] 0)) v k := fun v hm => by
        obtain ⟨i, hi, e⟩ := List.getElem_of_mem hm
        obtain ⟨v', ev', p⟩ := hv' i (by omega)
        rw [List.getElem?_eq_getElem hi, e] at ev'
        cases ev'
        exact ⟨_, p⟩
      exact kat_of vs hall
    obtain ⟨fs, hfl, hkt, hfi⟩ := hfs
    refine wpAny_bind (PySem.W.kat_kind (T := .type "int") hkt (by omega) (fun v hm => ?_) rfl ?_)
    · obtain ⟨k, t, rfl⟩ := hfi v hm
      exact .now
    have gd : ∀ i, i < n → PairK (((s.heap.update a (Obj.mapSeq fun _ => #[])).push (seqObj "tuple" vs.toArray 0)).push (seqObj "list" #[] 0)) (vs.getD i Value.none) (K0 i) := fun i hi => by
      obtain ⟨v, ev, p⟩ := hv' i hi
      rw [List.getD_eq_getElem?_getD, ev]
      exact p
    refine wpAny_bind (wpAny_mono (kat_run (ks := vs) (vs := vs) (κ := tuplesK true) (G := fun p s' => s' = { s with heap := ((s.heap.update a (Obj.mapSeq fun _ => #[])).push (seqObj "tuple" vs.toArray 0)).push (seqObj "list" #[] 0) } ∧ Pm p n ∧ Asc K0 p n)
      (Q := fun st' s' => s' = { s with heap := ((s.heap.update a (Obj.mapSeq fun _ => #[])).push (seqObj "tuple" vs.toArray 0)).push (seqObj "list" #[] 0) } ∧ ∃ p : Array Nat, Pm p n ∧ Asc K0 p n ∧ arrOf st' = p.map (kas_item (vs.toArray.zip vs.toArray)) ∧ failedOf st' = none) rfl (by omega) (by omega)
      (fun p st' s' a1 a2 a3 a4 => ⟨a4.1, p, a4.2.1, a4.2.2, a2, a3⟩) ?_) ?_ fun _ _ e => e)
    · rw [hl]
      have so := sort_ok hK { s with heap := ((s.heap.update a (Obj.mapSeq fun _ => #[])).push (seqObj "tuple" vs.toArray 0)).push (seqObj "list" #[] 0) } (by omega)
      have so2 : (kas_sort n).kasWp (cmp0 K0 n) (fun p s' => s' = { s with heap := ((s.heap.update a (Obj.mapSeq fun _ => #[])).push (seqObj "tuple" vs.toArray 0)).push (seqObj "list" #[] 0) } ∧ Pm p n ∧ Asc K0 p n) { s with heap := ((s.heap.update a (Obj.mapSeq fun _ => #[])).push (seqObj "tuple" vs.toArray 0)).push (seqObj "list" #[] 0) } := by
        have fix : ∀ (t : KasT (Array Nat)) {Q : Array Nat → Shared → Prop} {s0 : Shared}, t.kasWp (cmp0 K0 n) Q s0 → t.kasWp (cmp0 K0 n) (fun p s' => s' = s0 ∧ Q p s') s0 := by
          intro t
          induction t with
          | ret a => intro Q s0 h; exact ⟨rfl, h⟩
          | ask i j k ih => intro Q s0 h; exact ⟨h.1, h.2.1, h.2.2.1, ih _ h.2.2.2⟩
        exact fix _ so
      exact kwp_at (fun i j C hi hj hij hC => keyLt_pair (gd i hi) (gd j hj) (fun z => hij (hK i j hi hj z)) hC) _ so2
    rintro ⟨⟨⟩, st'⟩ s' ⟨rfl, p, pm, pa, har, hf⟩
    dsimp only
    rw [kat_snds rfl har]
    refine wpAny_bind (seqEpoch_at ho6 rfl ?_)
    refine wpAny_bind (listUpdate_at ho6 rfl ?_ (by show 0 ≤ _; omega) (by rw [List.size_toArray]; exact Nat.le_succ_of_le (hol p pm.sz)))
    rw [hf]
    simp only [bne_self_eq_false, Bool.false_eq_true, if_false]
    exact wpAny_pure (h p pm pa)
theorem sorted_items {r d : Addr} {kvs : List (L2.Key × Value)} {ep : Nat} {Q : Value → Shared → Prop} (hh : A.handled = none) (hv : s.heap.IsItemsView r d) (hm : s.heap.DictAt (mixKind prog w) d kvs ep) (hl : kvs.length = n) (hN : n < 64)
    (hK : ∀ i j, i < n → j < n → K0 i = K0 j → i = j) (hk : ∀ (i : Nat) (kv : L2.Key × Value), kvs[i]? = some kv → (kv.1 = Sum.inl (K0 i)) ∧ ∃ (x : Int) (t : Tok), kv.2 = Value.int x t)
    (h : ∀ (h' : Heap) (tk : Nat) (as : List Addr) (B : Addr) (e : Nat) (p : Array Nat), Pm p n → Asc K0 p n → (∀ b o, s.heap.get? b = some o → h'.get? b = some o) → as.length = n → as.Nodup → (∀ a ∈ as, s.heap.objs.size ≤ a) → (∀ P0 w0 H0, HOk P0 w0 H0 s.heap → H0 B = none) → (∀ b o, s.heap.get? b = some o → b ≠ B) → B ∉ as →
      (∀ (i : Nat) (a : Addr), as[i]? = some a → ∃ (kv : Key × Value) (t : Tok), kvs[i]? = some kv ∧ h'.get? a = some { cls := .type "tuple", data := .seq #[.int (K0 i) t, kv.2] }) → h'.get? B = some (seqObj "list" (ordL (as.map Value.ref) .none p).toArray e) → Q (.ref B) { s with heap := h', toks := tk }) :
    wpAny (model prog w) A (call (.builtin "sorted") [.ref r]) Q E s := by
  have hbig : kvs.length ≤ sizeLine := by rw [sizeLine_eq]; omega
  refine Calls.call_function_entry kind_sorted plain_sorted entry_sorted (args_sorted1 _) ?_
  unfold Builtin.«sorted»
  refine wpAny_bind (m := checkCount "sorted" 1 1 _) (wpAny_pure ?_)
  refine wpAny_bind (kdx_collect (A := A.in1) (knd := mixKind prog w) (kvs := kvs) (ep := ep) hh hv hm hbig fun h1 tk as hk1 hal hG => ?_)
  refine wpAny_bind (wpAny_newList (hsz := by rw [List.length_map, hal]; exact hbig) ?_)
  have pairs : ∀ (i : Nat) (a : Addr), as[i]? = some a → ∃ (kv : Key × Value) (t : Tok), kvs[i]? = some kv ∧ h1.get? a = some { cls := .type "tuple", data := .seq #[.int (K0 i) t, kv.2] } := fun i a ha => by
    obtain ⟨key, k, x, e1, e2, e3⟩ := hG.pairs i a ha
    obtain ⟨q1, q2⟩ := hk i (k, x) e1
    have q1 : k = .inl (K0 i) := q1
    subst q1
    obtain ⟨t, rfl⟩ : ∃ t, key = .int (K0 i) t := by
      cases key <;> first | (exact ⟨_, by have := eq_of_beq e2; rw [this]⟩) | (exact absurd e2 (by simp [mixKind, keyIs, Value.isInt])) | skip
      all_goals first | (simp [mixKind, keyIs, Value.isInt] at e2; subst e2; exact ⟨_, rfl⟩) | (simp [mixKind, keyIs, Value.isInt] at e2)
    exact ⟨(.inl (K0 i), x), t, e1, e3⟩
  have hold : ∀ b o, h1.get? b = some o → (h1.push (seqObj "list" (as.map Value.ref).toArray 0)).get? b = some o := fun b o e => Heap.get?_push_of_some _ e
  have hoB : (h1.push (seqObj "list" (as.map Value.ref).toArray 0)).get? h1.objs.size = some (seqObj "list" (as.map Value.ref).toArray 0) := Heap.get?_push_size _ rfl
  have alt : ∀ a ∈ as, a < h1.objs.size := fun a ha => hG.there ha
  have hno : ∀ (P0 : Program) (w0 : World) (H0 : Hp), HOk P0 w0 H0 s.heap → H0 h1.objs.size = none := fun P0 w0 H0 ok => (ok.kept hk1).fresh (Nat.le_refl _)
  have hle : ∀ b o, s.heap.get? b = some o → b ≠ h1.objs.size := fun b o e z => by
    have := Heap.lt_size (hk1 b o e)
    rw [z] at this
    exact Nat.lt_irrefl _ this
  show wpAny _ _ _ _ _ { s with heap := h1.push (seqObj "list" (as.map Value.ref).toArray 0), toks := tk }
  refine wpAny_bind (wpAny_holding (wpAny_call_entry slot_list_sort ⟨_, hoB, rfl⟩ entry_list_sort (list_sort_any (K0 := K0) (n := n) hoB (by rw [List.length_map, hal, hl]) hN hK (fun i hi => ?_) fun p pm pa => ⟨_, rfl, ?_⟩) (args_list_sort _)))
  · obtain ⟨a, ea⟩ : ∃ a, as[i]? = some a := ⟨_, List.getElem?_eq_getElem (by omega)⟩
    obtain ⟨kv, t, e1, e2⟩ := pairs i a ea
    obtain ⟨_, x, u, e3⟩ := hk i kv e1
    rw [e3] at e2
    exact ⟨.ref a, by rw [List.getElem?_map, ea]; rfl, a, _, x, t, u, 0, rfl, hold _ _ e2, rfl, rfl⟩
  · obtain ⟨e, he⟩ := sortedHeap_at (out := (ordL (as.map Value.ref) .none p).toArray) hoB
    have old : ∀ b o, h1.get? b = some o → (sortedHeap (h1.push (seqObj "list" (as.map Value.ref).toArray 0)) h1.objs.size (as.map Value.ref) (ordL (as.map Value.ref) .none p).toArray).get? b = some o := fun b o q => by
      have hlt : b < h1.objs.size := Heap.lt_size q
      rw [sortedHeap_old (Nat.ne_of_lt hlt) (by rw [size_push']; exact Nat.lt_succ_of_lt hlt)]
      exact hold b o q
    refine wpAny_pure ⟨_, rfl, h _ tk as h1.objs.size e p pm pa (fun b o q => old b o (hk1 b o q)) (by omega) (hG.rise.imp fun hlt => Nat.ne_of_lt hlt) (fun a ha => Nat.le_of_lt (hG.above a ha)) hno hle (fun z => absurd (alt _ z) (Nat.lt_irrefl _)) (fun i a ha => ?_) he⟩
    obtain ⟨kv, t, e1, e2⟩ := pairs i a ha
    exact ⟨kv, t, e1, old _ _ e2⟩
end
end L2
set_option maxHeartbeats 4000000
namespace L2
open PySem PySem.Spec PyProof.Rows
section
variable {prog : Program} {w : World} {A : Around} {E : Value → Shared → Prop} {s : Shared} {d : Addr} {n : Nat} {P : Nat → Value → Prop} {OK : Heap → Prop}
theorem collect_dict {Q : List Value → Shared → Prop} (K : PySem.W.KdlSrc prog w "dict" d d n P OK) (hh : A.handled = none) (hok : OK s.heap) (hn : n ≤ sizeLine)
    (hQ : ∀ h' tk vs, (∀ b o, s.heap.get? b = some o → h'.get? b = some o) → s.heap.objs.size < h'.objs.size → ItemsOf P vs.toArray n → Q vs { s with heap := h', toks := tk }) : wpAny (model prog w) A (collect (.ref d)) Q E s := by
  unfold collect
  refine wpAny_bind (wpAny_runValue (codeAny_builtin PySem.F.entry_proto_collect ?_))
  rw [Around.under_plainId PySem.F.plain_proto_collect _]
  show wpAny _ _ (newList [] >>= fun l => again (.builtin "list.__iadd__" ⟨[l, .ref d], []⟩)) _ _ s
  refine wpAny_bind (wpAny_newObj_type (wpAny_pure ⟨plainId_quiet PySem.F.plain_list_iadd _, codeAny_builtin PySem.F.entry_list_iadd ?_⟩))
  rw [Around.under_plainId PySem.F.plain_list_iadd _]
  have hlt := K.there _ hok
  have hS : (s.heap.push { cls := .type "list", data := .seq ([] : List Value).toArray }).get? s.heap.objs.size = some { cls := .type "list", data := .seq ([] : List Value).toArray } := Heap.get?_push_size _ rfl
  show wpAny _ _ (Builtin.List.listExtendWith (.ref s.heap.objs.size) (.ref d) (.ref s.heap.objs.size)) _ _ _
  refine PySem.W.kdl_extend (A := A) (R := fun r s' => match r with
      | Except.ok (Flow.ret v) => wpAny (model prog w) A (match v with
          | Value.ref a => do
            let o ← load a
            match o.data with
            | Data.seq xs _ => pure xs.toList
            | _ => unsupported "internal:collect"
          | _ => unsupported "internal:collect") Q E s'
      | Except.ok _ => False
      | Except.error e => E e s') (s := { s with heap := s.heap.push { cls := .type "list", data := .seq ([] : List Value).toArray } }) K hh (K.keep _ _ hok fun b _ o e => Heap.get?_push_of_some _ e) s.heap.objs.size (Nat.ne_of_gt hlt.1) (Nat.ne_of_gt hlt.1) _ 0 hS (fun h' tk acc' c' hk hS' hacc => ?_) hn
  show wpAny _ A (load s.heap.objs.size >>= _) _ _ _
  refine wpAny_bind (wpAny_load hS' ?_)
  refine wpAny_pure (hQ h' tk acc'.toList (fun b o e => hk b o (Nat.ne_of_lt (Heap.lt_size e)) (Heap.get?_push_of_some _ e)) (Heap.lt_size hS') (by simpa using hacc))
theorem ints_of : ∀ (vs : List Value) (ns : List Int) (j : Nat), vs.length = ns.length → (∀ (i : Nat) (v : Value), vs[i]? = some v → ∃ (k : Int) (t : Tok), ns[i]? = some k ∧ v = Value.int k t) → IntsAre vs ns
  | [], [], _, _, _ => .nil
  | [], _ :: _, _, h, _ => by simp at h
  | _ :: _, [], _, h, _ => by simp at h
  | v :: vs, m :: ns, j, h, hv => by
    obtain ⟨k, t, e, rfl⟩ := hv 0 v rfl
    cases e
    exact .cons _ t (ints_of vs ns (j + 1) (by simpa using h) fun i u hu => by simpa using hv (i + 1) u (by simpa using hu))
theorem sorted_dict {Q : Value → Shared → Prop} {ns : List Int} (K : PySem.W.KdlSrc prog w "dict" d d n P OK) (hh : A.handled = none) (hok : OK s.heap) (hP : ∀ (i : Nat) (v : Value), P i v → ∃ (k : Int) (t : Tok), ns[i]? = some k ∧ v = Value.int k t) (hl : ns.length = n) (h64 : n < 64)
    (hQ : ∀ (a : Addr) (h' : Heap) (tk : Nat) (vs : List Value) (ns' : List Int) (e : Nat), (∀ b o, s.heap.get? b = some o → h'.get? b = some o) → s.heap.objs.size ≤ a → h'.get? a = some (seqObj "list" vs.toArray e) → IntsAre vs ns' → ns'.Perm ns → ns'.Pairwise (· ≤ ·) → Q (.ref a) { s with heap := h', toks := tk }) :
    wpAny (model prog w) A (call (.builtin "sorted") [.ref d]) Q E s := by
  refine Calls.call_function_entry kind_sorted plain_sorted entry_sorted (args_sorted1 _) ?_
  unfold Builtin.«sorted»
  refine wpAny_bind (m := checkCount "sorted" 1 1 _) (wpAny_pure ?_)
  refine wpAny_bind (collect_dict (A := A.in1) K hh hok (by rw [sizeLine_eq]; omega) fun h' tk vs hk hs hit => ?_)
  refine wpAny_bind (wpAny_newList (hsz := by have := hit.1; rw [List.size_toArray] at this; rw [sizeLine_eq]; omega) ?_)
  have hI : IntsAre vs ns := ints_of vs ns 0 (by have := hit.1; rw [List.size_toArray] at this; omega) fun i v hv => by
    have := hP i v (hit.2 i v (by simpa using hv))
    simpa using this
  have hoL : (h'.push (seqObj "list" vs.toArray 0)).get? h'.objs.size = some (seqObj "list" vs.toArray 0) := Heap.get?_push_size _ rfl
  have hlen : vs.length < 64 := by have := hit.1; rw [List.size_toArray] at this; omega
  refine wpAny_bind (wpAny_holding (wpAny_call_entry slot_list_sort ⟨_, hoL, rfl⟩ entry_list_sort (list_sort_tree hoL hI hlen fun out ns' a1 a2 a3 => ⟨_, rfl, ?_⟩) (args_list_sort _)))
  obtain ⟨e, he⟩ := sortedHeap_at (out := out) hoL
  refine wpAny_pure ⟨_, rfl, hQ h'.objs.size _ tk out.toList ns' e (fun b o q => ?_) (Nat.le_of_lt hs) (by simpa using he) a1 a2 a3⟩
  have hlt : b < h'.objs.size := Heap.lt_size (hk b o q)
  rw [sortedHeap_old (Nat.ne_of_lt hlt) (by rw [size_push']; exact Nat.lt_succ_of_lt hlt)]
  exact Heap.get?_push_of_some _ (hk b o q)
end
section
variable {X : Cx}
theorem KV_get {kvs : List (Key × V)} {vs : List (Key × Value)} (h : KV kvs vs) : vs.map (·.1) = kvs.map (·.1) := by
  induction h with
  | nil => rfl
  | cons r _ ih => simp only [List.map_cons, ih, r.1]
theorem call_sortedD (hh : X.A.handled = none) : CallR X (.builtin "sorted") (fun xs H Q => ∃ (d : Addr) (kvs : List (Key × V)) (ns : List Int), xs = [.ref d] ∧ H d = some (.dK kvs) ∧ kvs.map (·.1) = ns.map Sum.inl ∧ ns.length < 64 ∧
    ∀ (l : Addr) (ns' : List Int), (kvs.map (·.1)).Nodup → H l = none → ns'.Perm ns → ns'.Pairwise (· ≤ ·) → Q (.ref l) (upd H l (.lst (ns'.map V.int)))) := by
  intro pins s σ H xs us Q I r h
  obtain ⟨d, kvs, ns, rfl, hH, hk, h64, q⟩ := h
  obtain ⟨u, rfl, rx⟩ := vals1 r
  cases rx
  obtain ⟨z, lo, vs, kv, ob, es, ep, e, c⟩ := (show ObjOk X.prog X.w H s.heap d (.dK kvs) from I.hok d _ hH)
  have hm := KV_get kv
  have hnd : (kvs.map (·.1)).Nodup := by rw [← hm]; exact c.2.2.2.2
  have hvl : vs.length = ns.length := by
    have := congrArg List.length (hm.trans hk)
    simpa using this
  refine sorted_dict (ns := ns) (PySem.W.kdl_dict (knd := mixKind X.prog X.w) (kvs := vs) (ep := ep) lo) hh ⟨ob, es, e, c⟩ (fun i v hv => ?_) hvl.symm (by omega) fun a h' tk us' ns' ec hkk ha he hI hp hs => ?_
  · obtain ⟨k, x, hi, hv⟩ := hv
    have h1 : (vs.map (·.1))[i]? = some k := by rw [List.getElem?_map, hi]; rfl
    rw [hm, hk, List.getElem?_map] at h1
    cases hn : ns[i]? with
    | none => rw [hn] at h1; cases h1
    | some m =>
      rw [hn] at h1
      have h2 : Sum.inl m = k := Option.some.inj h1
      subst h2
      refine ⟨m, ?_⟩
      have h3 : Value.isInt m v = true := hv
      cases v with
      | int j t =>
        have : j = m := by simpa [Value.isInt] using h3
        subst this
        exact ⟨t, rfl, rfl⟩
      | _ => simp [Value.isInt] at h3
  · have hvals : Vals (ns'.map V.int) us' := by
      clear he hp hs
      induction hI with
      | nil => exact .nil
      | cons m t _ ih => exact .cons ⟨t, rfl⟩ ih
    have hlen : (ns'.map V.int).length ≤ sizeLine := by
      rw [List.length_map, hp.length_eq, sizeLine_eq]
      omega
    exact ⟨.ref a, _, I.laid (t' := tk) (o := .lst (ns'.map V.int)) hkk ha ⟨hlen, us', ec, hvals, he⟩, rfl, q a ns' hnd (I.hok.fresh ha) hp hs⟩
end
end L2
set_option maxHeartbeats 4000000
namespace L2
open PySem PySem.Spec PyProof.Rows PySem.W
def getI {α : Type} (kvs : List (Int × α)) (k : Int) : Option α := (kvs.find? fun kv => decide (kv.1 = k)).map (·.2)
def putI {α : Type} (kvs : List (Int × α)) (k : Int) (v : α) : List (Int × α) := if (kvs.any fun kv => decide (kv.1 = k)) = true then kvs.map fun kv => if kv.1 = k then (kv.1, v) else kv else kvs ++ [(k, v)]
def dropI {α : Type} (kvs : List (Int × α)) (k : Int) : List (Int × α) := kvs.filter fun kv => decide (kv.1 ≠ k)
def sortI {α : Type} (kvs : List (Int × α)) : List (Int × α) := kvs.mergeSort fun a b => decide (a.1 ≤ b.1)
def RiseK {α : Type} (xs : List (Int × α)) : Prop := xs.Pairwise fun a b => a.1 < b.1
theorem rise_sub {α : Type} : ∀ {ys xs : List (Int × α)}, RiseK xs → RiseK ys → (∀ x ∈ xs, x ∈ ys) → xs.Sublist ys
  | _, [], _, _, _ => List.nil_sublist _
  | [], x :: xs, _, _, h => absurd (h x List.mem_cons_self) (by simp)
  | y :: ys, x :: xs, hx, hy, h => by
    have hx' := List.pairwise_cons.mp hx
    have hy' := List.pairwise_cons.mp hy
    rcases List.mem_cons.mp (h x List.mem_cons_self) with e | e
    · subst e
      refine .cons₂ _ (rise_sub hx'.2 hy'.2 fun z hz => ?_)
      rcases List.mem_cons.mp (h z (List.mem_cons_of_mem _ hz)) with e | e
      · exact absurd (hx'.1 z hz) (by rw [e]; exact Int.lt_irrefl _)
      · exact e
    · have hlt := hy'.1 x e
      refine .cons _ (rise_sub hx hy'.2 fun z hz => ?_)
      rcases List.mem_cons.mp (h z hz) with e' | e'
      · rcases List.mem_cons.mp hz with e2 | e2
        · rw [e2]; exact e
        · have := hx'.1 z e2
          rw [e'] at this
          omega
      · exact e'
theorem rise_eq {α : Type} {xs ys : List (Int × α)} (hx : RiseK xs) (hy : RiseK ys) (h : ∀ x ∈ xs, x ∈ ys) (hl : ys.length ≤ xs.length) : xs = ys :=
  (rise_sub hx hy h).eq_of_length_le hl
theorem sortI_perm {α : Type} (kvs : List (Int × α)) : (sortI kvs).Perm kvs := List.mergeSort_perm _ _
theorem sortI_len {α : Type} (kvs : List (Int × α)) : (sortI kvs).length = kvs.length := (sortI_perm kvs).length_eq
theorem nodup_rise {α : Type} : ∀ {xs : List (Int × α)}, xs.Pairwise (fun a b => a.1 ≤ b.1) → (xs.map (·.1)).Nodup → RiseK xs
  | [], _, _ => .nil
  | x :: xs, h, n => by
    have h' := List.pairwise_cons.mp h
    have n' := List.nodup_cons.mp n
    refine List.pairwise_cons.mpr ⟨fun y hy => ?_, nodup_rise h'.2 n'.2⟩
    have h1 := h'.1 y hy
    have : x.1 ≠ y.1 := fun z => n'.1 (List.mem_map.mpr ⟨y, hy, z.symm⟩)
    omega
theorem sortI_rise {α : Type} {kvs : List (Int × α)} (n : (kvs.map (·.1)).Nodup) : RiseK (sortI kvs) := by
  refine nodup_rise ?_ (((sortI_perm kvs).map _).nodup_iff.mpr n)
  have := List.pairwise_mergeSort (le := fun (a b : Int × α) => decide (a.1 ≤ b.1)) (fun a b c h1 h2 => by
    have h1 := of_decide_eq_true h1
    have h2 := of_decide_eq_true h2
    exact decide_eq_true (Int.le_trans h1 h2)) (fun a b => by
    by_cases h : a.1 ≤ b.1
    · simp [h]
    · simp [show b.1 ≤ a.1 by omega]) kvs
  exact this.imp fun h => of_decide_eq_true h
theorem sortI_eq {α : Type} {kvs xs : List (Int × α)} (n : (kvs.map (·.1)).Nodup) (hx : RiseK xs) (h : ∀ p, p ∈ xs ↔ p ∈ kvs) : sortI kvs = xs := by
  have s1 := sortI_rise n
  have a := rise_sub s1 hx fun p hp => (h p).mpr ((sortI_perm kvs).mem_iff.mp hp)
  have b := rise_sub hx s1 fun p hp => (sortI_perm kvs).mem_iff.mpr ((h p).mp hp)
  exact a.eq_of_length_le b.length_le
theorem sortI_keys {α : Type} {kvs : List (Int × α)} {ns : List Int} (n : (kvs.map (·.1)).Nodup) (hp : ns.Perm (kvs.map (·.1))) (hs : ns.Pairwise (· ≤ ·)) : ns = (sortI kvs).map (·.1) := by
  have e : ∀ l : List Int, (l.map fun i => (i, ())).map (·.1) = l := fun l => by rw [List.map_map]; exact List.map_id _
  have r1 : RiseK (ns.map fun i => (i, ())) := nodup_rise (List.pairwise_map.mpr hs) (by rw [e]; exact hp.nodup_iff.mpr n)
  have r2 : RiseK (((sortI kvs).map (·.1)).map fun i => (i, ())) := by
    refine List.pairwise_map.mpr (List.pairwise_map.mpr ?_)
    exact sortI_rise n
  have := rise_eq r1 r2 (fun x hx => by
    obtain ⟨i, hi, rfl⟩ := List.mem_map.mp hx
    have := hp.mem_iff.mp hi
    have := ((sortI_perm kvs).map (·.1)).mem_iff.mpr this
    exact List.mem_map_of_mem this) (by simp [sortI_len, hp.length_eq])
  have := congrArg (List.map (·.1)) this
  rw [e, e] at this
  exact this
theorem ordL_get {α : Type} {vs : List α} {d : α} {p : Array Nat} {i : Nat} (hi : i < p.size) : (ordL vs d p)[i]? = some (vs.getD (gN p i) d) := by
  unfold ordL
  rw [List.getElem?_map, Array.getElem?_toList, gN_of hi]
  rfl
theorem ordL_len {α : Type} (vs : List α) (d : α) (p : Array Nat) : (ordL vs d p).length = p.size := by simp [ordL]
theorem ordL_sort {kvs : List (Int × Int)} {n : Nat} {K0 : Nat → Int} {p : Array Nat} (hl : kvs.length = n) (n0 : (kvs.map (·.1)).Nodup) (hk : ∀ (i : Nat) (kv : Int × Int), kvs[i]? = some kv → kv.1 = K0 i) (pm : Pm p n) (pa : Asc K0 p n) : ordL kvs (0, 0) p = sortI kvs := by
  have hg : ∀ i, i < n → ∃ kv, kvs[gN p i]? = some kv ∧ (ordL kvs (0, 0) p)[i]? = some kv ∧ kv.1 = K0 (gN p i) := fun i hi => by
    have h1 := pm.lt i hi
    have h2 : kvs[gN p i]? = some kvs[gN p i] := List.getElem?_eq_getElem (by omega)
    refine ⟨_, h2, ?_, hk _ _ h2⟩
    rw [ordL_get (by rw [pm.sz]; exact hi), List.getD_eq_getElem?_getD, h2]
    rfl
  refine rise_eq ?_ (sortI_rise n0) (fun x hx => ?_) (by rw [sortI_len, ordL_len, pm.sz, hl]; exact Nat.le_refl _)
  · refine List.pairwise_iff_getElem.mpr fun i j hi hj hij => ?_
    rw [ordL_len, pm.sz] at hi hj
    obtain ⟨x, _, e1, k1⟩ := hg i hi
    obtain ⟨y, _, e2, k2⟩ := hg j hj
    rw [List.getElem?_eq_some_iff] at e1 e2
    obtain ⟨_, e1⟩ := e1
    obtain ⟨_, e2⟩ := e2
    rw [e1, e2, k1, k2]
    exact pa i j hij hj
  · obtain ⟨i, hi, e⟩ := List.getElem_of_mem hx
    rw [ordL_len, pm.sz] at hi
    obtain ⟨y, h1, h2, _⟩ := hg i hi
    rw [List.getElem?_eq_some_iff] at h2
    obtain ⟨_, h2⟩ := h2
    rw [e] at h2
    subst h2
    exact (sortI_perm kvs).mem_iff.mpr (List.mem_of_getElem? h1)
theorem KV_at {kvs : List (L2.Key × V)} {vs : List (L2.Key × Value)} (h : KV kvs vs) : ∀ {i : Nat} {x : L2.Key × V}, kvs[i]? = some x → ∃ y, vs[i]? = some y ∧ x.1 = y.1 ∧ RelV x.2 y.2 := by
  induction h with
  | nil => intro i x h; simp at h
  | cons r _ ih =>
    intro i x h
    cases i with
    | zero => simp at h; subst h; exact ⟨_, rfl, r.1, r.2⟩
    | succ i => exact ih (by simpa using h)
def viewP (v d : Addr) : Heap → Prop := fun h => h.IsItemsView v d
section
variable {X : Cx} {pins : List (Addr × Obj)} {σ : St} {H H' : Hp} {s : Shared} {h' : Heap}
theorem Inv.laids {t' : Nat} (I : Inv X pins σ H s) (k : ∀ b u, s.heap.get? b = some u → h'.get? b = some u) (hs : Same H H') (hn : ∀ b o, s.heap.get? b = some o → H b = none → H' b = none) (hok : HOk X.prog X.w H' h') : Inv X pins σ H' { s with heap := h', toks := t' } :=
  I.un ⟨fun b u q _ _ _ => k b u q, fun b u q _ _ _ => ⟨u.slots, k b u q⟩, fun b u q n _ => hn b u q n, fun b u q _ => ⟨u, k b u q⟩, fun b xs q => hs _ _ q, fun b u xs q => hs _ _ q, fun b ps q => ⟨#[], by rw [hs _ _ q]; simp⟩⟩ hok
def rItems : V → List V → Hp → VK → Prop := fun x vs H Q => ∃ a kvs, x = .ref a ∧ vs = [] ∧ H a = some (.dK kvs) ∧ ∀ v, H v = none → Q (.ref v) (upd H v (.ext (viewP v a)))
theorem mt_items : MtR X "dict.items" rItems := by
  intro pins s σ H x xs v us Q I rx rv h
  obtain ⟨a, kvs, rfl, rfl, hH, q⟩ := h
  cases rx
  cases rv
  obtain ⟨_, lo, vs, _, hD⟩ := dk_of I.hok hH
  refine call_meetsIn PySem.F.slot_dict_items hD.typeIs PySem.F.entry_dict_items (PySem.F.args_dict_items_1 _) (meets_dict_items (mixKind X.prog X.w) a lo) ⟨⟨vs, hD⟩, ?_⟩
  refine ⟨.ref _, _, I.laid (t' := s.toks) (o := .ext (viewP s.heap.objs.size a)) (fun b o e => Heap.get?_push_of_some _ e) (Nat.le_refl _) ?_, rfl, q _ (I.hok.fresh (Nat.le_refl _))⟩
  exact ⟨⟨_, Heap.get?_push_size _ rfl, rfl, rfl⟩, ⟨_, Heap.get?_push_size _ rfl⟩, fun h1 h2 ⟨o, e, z⟩ k => ⟨o, k _ e, z⟩⟩
theorem call_sortI (hh : X.A.handled = none) : CallR X (.builtin "sorted") (fun xs H Q => ∃ (v a : Addr) (ps : List (Int × Int)), xs = [.ref v] ∧ H v = some (.ext (viewP v a)) ∧ H a = some (.dK (ps.map fun p => (Sum.inl p.1, V.int p.2))) ∧ ps.length < 64 ∧ ((ps.map (·.1)).Nodup →
    ∀ (l : Addr) (H' : Hp) (qs : List Addr), Same H H' → H l = none → (∀ q ∈ qs, H q = none) → H' l = some (.lst (qs.map V.ref)) → qs.length = ps.length → (∀ (i : Nat) (q : Addr) (kv : Int × Int), qs[i]? = some q → (sortI ps)[i]? = some kv → H' q = some (.tup [.int kv.1, .int kv.2])) → Q (.ref l) H')) := by
  intro pins s σ H xs us Q I r h
  obtain ⟨v, d, ps, rfl, hv, hH, h64, q⟩ := h
  obtain ⟨u, rfl, rx⟩ := vals1 r
  cases rx
  obtain ⟨z, lo, vs, kv, dof⟩ := dk_of I.hok hH
  obtain ⟨ob, es, ep, e0, x1, x2, x3, x4, hnd⟩ := dof
  have hview : s.heap.IsItemsView v d := (I.hok v _ hv).1
  have hm := KV_get kv
  have hkeys : vs.map (·.1) = ps.map fun p => (Sum.inl p.1 : L2.Key) := by
    rw [hm, List.map_map]
    rfl
  have hvl : vs.length = ps.length := by
    have := congrArg List.length hkeys
    simpa using this
  have nd : (ps.map (·.1)).Nodup := by
    have h2 : (ps.map fun p => (Sum.inl p.1 : L2.Key)).Nodup := by rw [← hkeys]; exact hnd
    have h3 : ((ps.map (·.1)).map (Sum.inl : Int → L2.Key)).Nodup := by rw [List.map_map]; exact h2
    exact (List.pairwise_map.mp h3).imp fun hne e => hne (by rw [e])
  have vget : ∀ (i : Nat) (kx : L2.Key × Value), vs[i]? = some kx → ∃ pr, ps[i]? = some pr ∧ kx.1 = Sum.inl pr.1 ∧ ∃ t, kx.2 = Value.int pr.2 t := fun i kx hx => by
    have hi : i < ps.length := by rw [← hvl]; exact (List.getElem?_eq_some_iff.mp hx).1
    refine ⟨ps[i], List.getElem?_eq_getElem hi, ?_⟩
    obtain ⟨kx', e, r1, r2⟩ := KV_at kv (i := i) (x := (Sum.inl ps[i].1, V.int ps[i].2)) (by rw [List.getElem?_map, List.getElem?_eq_getElem hi]; rfl)
    rw [hx] at e
    cases e
    obtain ⟨t, ht⟩ := r2
    exact ⟨r1.symm, t, ht⟩
  let K0 : Nat → Int := fun i => (ps.getD i (0, 0)).1
  have hK0 : ∀ (i : Nat) (pr : Int × Int), ps[i]? = some pr → pr.1 = K0 i := fun i pr e => by
    show _ = (ps.getD i (0, 0)).1
    rw [List.getD_eq_getElem?_getD, e]
    rfl
  refine sorted_items (K0 := K0) (n := ps.length) (r := v) (d := d) (kvs := vs) (ep := ep) hh hview ⟨ob, es, e0, x1, x2, x3, x4, hnd⟩ hvl h64 (fun i j hi hj e => ?_) (fun i kx hx => ?_) fun h' tk as B ec p pm pa hk hal asn asf hBn hBf hBa tups hB => ?_
  · have h1 := List.pairwise_iff_getElem.mp nd
    rcases Nat.lt_trichotomy i j with hl | hl | hl
    · have := h1 i j (by simpa using hi) (by simpa using hj) hl
      rw [List.getElem_map, List.getElem_map, hK0 i _ (List.getElem?_eq_getElem hi), hK0 j _ (List.getElem?_eq_getElem hj)] at this
      exact absurd e this
    · exact hl
    · have := h1 j i (by simpa using hj) (by simpa using hi) hl
      rw [List.getElem_map, List.getElem_map, hK0 i _ (List.getElem?_eq_getElem hi), hK0 j _ (List.getElem?_eq_getElem hj)] at this
      exact absurd e.symm this
  · obtain ⟨pr, e1, e2, t, e3⟩ := vget i kx hx
    exact ⟨by rw [e2, hK0 i pr e1], _, _, e3⟩
  · have hsort := ordL_sort (kvs := ps) (n := ps.length) rfl nd hK0 pm pa
    let qs : List Addr := ordL as 0 p
    let D0 : Hp := fun b => if b = B then some (.lst (qs.map V.ref)) else if b ∈ as then some (.tup [.int (ps.getD (as.idxOf b) (0, 0)).1, .int (ps.getD (as.idxOf b) (0, 0)).2]) else H b
    have fr : ∀ a ∈ as, H a = none := fun a ha => I.hok.fresh (asf a ha)
    have hBH : H B = none := hBn _ _ _ I.hok
    have same : Same H D0 := fun b o e => by
      have n1 : b ≠ B := fun z => by rw [z, hBH] at e; cases e
      have n2 : b ∉ as := fun z => by rw [fr b z] at e; cases e
      show (if b = B then _ else if b ∈ as then _ else H b) = _
      rw [if_neg n1, if_neg n2]
      exact e
    have dB : D0 B = some (.lst (qs.map V.ref)) := if_pos rfl
    have das : ∀ (i : Nat) (a : Addr), as[i]? = some a → ∃ pr, ps[i]? = some pr ∧ D0 a = some (.tup [.int pr.1, .int pr.2]) ∧ ∃ t t', h'.get? a = some { cls := .type "tuple", data := .seq #[.int pr.1 t, .int pr.2 t'] } := fun i a ha => by
      obtain ⟨kx, t, e1, e2⟩ := tups i a ha
      obtain ⟨pr, f1, f2, t', f3⟩ := vget i kx e1
      have hm' : a ∈ as := List.mem_of_getElem? ha
      have hi : i < as.length := (List.getElem?_eq_some_iff.mp ha).1
      have hix : as.idxOf a = i := by
        have := (List.getElem?_eq_some_iff.mp ha).2
        rw [← this]
        exact asn.idxOf_getElem i hi
      refine ⟨pr, f1, ?_, t, t', by rw [e2, f3, ← hK0 i pr f1]⟩
      show (if a = B then _ else if a ∈ as then _ else H a) = _
      rw [if_neg (fun z => hBa (by rw [← z]; exact hm')), if_pos hm', hix, List.getD_eq_getElem?_getD, f1]
      rfl
    have hqs : ∀ (i : Nat) (q : Addr), qs[i]? = some q → ∃ j, j < as.length ∧ as[j]? = some q ∧ j = gN p i ∧ i < ps.length := fun i q hq => by
      have hi : i < ps.length := by
        have := (List.getElem?_eq_some_iff.mp hq).1
        rw [ordL_len, pm.sz] at this
        exact this
      have h1 := pm.lt i hi
      rw [ordL_get (by rw [pm.sz]; exact hi), List.getD_eq_getElem?_getD, List.getElem?_eq_getElem (show gN p i < as.length by omega)] at hq
      exact ⟨gN p i, by omega, by rw [List.getElem?_eq_getElem (show gN p i < as.length by omega)]; exact hq, rfl, hi⟩
    have eo : ordL (as.map Value.ref) .none p = qs.map Value.ref := by
      apply List.ext_getElem?
      intro i
      rw [List.getElem?_map]
      by_cases hi : i < p.size
      · have h1 := pm.lt i (by rw [← pm.sz]; exact hi)
        rw [ordL_get hi, ordL_get hi, List.getD_eq_getElem?_getD, List.getD_eq_getElem?_getD, List.getElem?_map, List.getElem?_eq_getElem (show gN p i < as.length by omega)]
        rfl
      · rw [List.getElem?_eq_none (by rw [ordL_len]; omega), List.getElem?_eq_none (by rw [ordL_len]; omega)]
        rfl
    rw [eo] at hB
    have hok : HOk X.prog X.w D0 h' := fun b o e => by
      by_cases n1 : b = B
      · subst n1
        rw [dB] at e
        cases e
        refine ⟨?_, qs.map Value.ref, ec, ?_, hB⟩
        · rw [List.length_map, ordL_len, pm.sz, sizeLine_eq]; omega
        · clear hB eo dB
          generalize qs = l
          induction l with
          | nil => exact .nil
          | cons a l ih => exact .cons rfl ih
      · by_cases n2 : b ∈ as
        · obtain ⟨i, hi, e1⟩ := List.getElem_of_mem n2
          have ha : as[i]? = some b := by rw [List.getElem?_eq_getElem hi, e1]
          obtain ⟨pr, f1, f2, t, t', f3⟩ := das i b ha
          rw [f2] at e
          cases e
          exact ⟨by rw [sizeLine_eq]; simp, [.int pr.1 t, .int pr.2 t'], .cons ⟨t, rfl⟩ (.cons ⟨t', rfl⟩ .nil), ⟨_, f3, rfl, _, rfl⟩⟩
        · have e' : H b = some o := by
            have : (if b = B then _ else if b ∈ as then _ else H b) = some o := e
            rw [if_neg n1, if_neg n2] at this
            exact this
          exact (I.hok b o e').stay (fun c w' _ y => hk c w' y) (fun c y => same _ _ y) fun c xs y => same _ _ y
    refine ⟨.ref B, D0, I.laids hk same (fun b o e n => ?_) hok, rfl, ?_⟩
    · show (if b = B then _ else if b ∈ as then _ else H b) = none
      rw [if_neg (hBf b o e), if_neg (fun z => absurd (Heap.lt_size e) (Nat.not_lt.mpr (asf b z)))]
      exact n
    · refine q nd B D0 qs same hBH (fun x hx => ?_) dB (by rw [ordL_len, pm.sz]) fun i x kx hx hkx => ?_
      · obtain ⟨i, hi, e1⟩ := List.getElem_of_mem hx
        obtain ⟨j, hj, e2, _⟩ := hqs i x (by rw [List.getElem?_eq_getElem hi, e1])
        exact fr x (List.mem_of_getElem? e2)
      · obtain ⟨j, hj, e2, ej, hi⟩ := hqs i x hx
        obtain ⟨pr, f1, f2, _⟩ := das j x e2
        rw [← hsort, ordL_get (by rw [pm.sz]; exact hi), List.getD_eq_getElem?_getD, ← ej, f1] at hkx
        cases hkx
        exact f2
end
end L2
set_option maxHeartbeats 4000000
namespace L2
open PySem PySem.Spec PyProof.Rows
theorem Slots.uniq {K : PySem.W.Frag} {H : Hp} {σ : St} {ρ : SEnv} {A B : List Addr} {G1 G2 : Hp} (s1 : Slots K G1 H σ ρ A) : Slots K G2 H σ ρ B → A = B := by
  induction s1 generalizing B with
  | nil => intro s; cases s; rfl
  | no _ ih => intro s; cases s with | no s => exact ih s
  | sh _ _ ih => intro s; cases s with | sh _ s => exact ih s
  | ow _ _ _ ih => intro s; cases s with | ow _ _ s => rw [ih s]
  | on e _ _ ih => intro s; cases s with | on e' _ s => rw [ih s, refs_inj e e']
  | tr _ _ ih => intro s; cases s with | tr _ s => rw [ih s]
def asTr : Sl → Option (Addr × Cn)
  | .tr a c => some (a, c)
  | _ => none
theorem asTr_eq {s : Sl} {q : Addr × Cn} (h : asTr s = some q) : s = .tr q.1 q.2 := by
  cases s <;> cases h
  rfl
def asDc : Cn → Option (List (Int × D))
  | .dct kvs => some kvs
  | _ => none
def asLc : Cn → Option (List D)
  | .lst ds => some ds
  | _ => none
theorem asDc_eq {c : Cn} {q : List (Int × D)} (h : asDc c = some q) : c = .dct q := by
  cases c <;> cases h
  rfl
theorem asLc_eq {c : Cn} {q : List D} (h : asLc c = some q) : c = .lst q := by
  cases c <;> cases h
  rfl
section
variable {K : PySem.W.Frag} {H0 : Hp} {O0 : List Addr} {G : Hp} {σ : St} {H H' : Hp} {ρ : SEnv}
theorem StVs.cons {v : V} {d : D} {vs : List V} {ds : List D} (a : StV K H0 O0 G σ H ρ v (.sh d)) (b : StVs K H0 O0 G σ H ρ vs ds) : StVs K H0 O0 G σ H ρ (v :: vs) (d :: ds) := by
  obtain ⟨O, P, s0, n, nd, g, sl, hp, r⟩ := a.ex
  subst hp
  obtain ⟨O', s0', n', nd', g', sl', r'⟩ := b.ex
  obtain rfl := sl.uniq sl'
  exact ⟨O, s0, n, nd, g, sl, .cons r r'⟩
end
def PuAs (K : PySem.W.Frag) (ta : TA) (r : SEnv → Option (List D)) : Prop := ∀ (H0 : Hp) (O0 : List Addr) (G : Hp) (σ : St) (H : Hp) (ρ : SEnv) (ds : List D) (Q : List V → Hp → Prop), OkO O0 H0 → StR K H0 O0 G σ H ρ → r ρ = some ds →
  (∀ vs H', Same H H' → StVs K H0 O0 G σ H' ρ vs ds → Q vs H') → ta σ H Q
structure JAs (X : Cx) (K : PySem.W.Frag) (es : List Expr) (ta : TA) (r : SEnv → Option (List D)) : Prop where
  pe : PA X es ta
  pu : PuAs K ta r
def sNil : SEnv → Option (List D) := fun _ => some []
def sCons (vf : SEnv → Option Sl) (r : SEnv → Option (List D)) : SEnv → Option (List D) := fun ρ => (vf ρ).bind fun s => (asSh s).bind fun d => (r ρ).bind fun ds => some (d :: ds)
def PuIO (K : PySem.W.Frag) (ta : TA) (i : Nat) (r : SEnv → Option (List D × List D)) : Prop := ∀ (H0 : Hp) (O0 : List Addr) (G : Hp) (σ : St) (H : Hp) (ρ : SEnv) (v : V) (x : List D × List D) (Q : List V → Hp → Prop), OkO O0 H0 → StR K H0 O0 G σ H ρ → σ[i]? = some (some v) → r ρ = some x →
  (∀ us ws H', Same H H' → us.length = x.1.length → StVs K H0 O0 G σ H' ρ (us ++ ws) (x.1 ++ x.2) → Q (us ++ v :: ws) H') → ta σ H Q
structure JIO (X : Cx) (K : PySem.W.Frag) (es : List Expr) (ta : TA) (i : Nat) (r : SEnv → Option (List D × List D)) : Prop where
  pe : PA X es ta
  pu : PuIO K ta i r
def ioHere (r : SEnv → Option (List D)) : SEnv → Option (List D × List D) := fun ρ => (r ρ).bind fun ds => some ([], ds)
def ioCons (vf : SEnv → Option Sl) (r : SEnv → Option (List D × List D)) : SEnv → Option (List D × List D) := fun ρ => (vf ρ).bind fun s => (asSh s).bind fun d => (r ρ).bind fun x => some (d :: x.1, x.2)
section
variable {X : Cx} {K : PySem.W.Frag} {e : Expr} {es : List Expr} {te : TE} {ta : TA} {vf : SEnv → Option Sl} {r : SEnv → Option (List D)} {rr : SEnv → Option (List D × List D)} {i : Nat}
theorem jas_nil : JAs X K [] tNil sNil := ⟨pa_nil, by
  intro H0 O0 G σ H ρ ds Q ok t hf q
  cases hf
  obtain ⟨O, s0, n, nd, g, sl⟩ := t.ex
  exact q [] H (Same.refl _) ⟨O, s0, n, nd, g, sl, .nil⟩⟩
theorem jas_cons (he : PE X e te) (pv : PuV K te vf) (hr : JAs X K es ta r) (hs : starEach (e :: es) X.env = (false, eval e X.env) :: starEach es X.env := by rfl) : JAs X K (e :: es) (tCons te ta) (sCons vf r) := ⟨pa_cons he hr.pe hs, by
  intro H0 O0 G σ H ρ ds Q ok t hf q
  obtain ⟨s, e1, hf⟩ := bind_some' hf
  obtain ⟨d, e2, hf⟩ := bind_some' hf
  obtain ⟨dd, e3, hf⟩ := bind_some' hf
  cases hf
  rw [asSh_eq e2] at e1
  refine pv H0 O0 G σ H ρ _ _ ok t e1 fun v H1 s1 sv => ?_
  exact hr.pu H0 O0 G σ H1 ρ dd _ ok sv.str e3 fun vs H2 s2 sw => q _ _ (s1.trans s2) (StVs.cons (sv.grow s2) sw)⟩
theorem jio_here (he : PE X e (tVar i)) (hr : JAs X K es ta r) (hs : starEach (e :: es) X.env = (false, eval e X.env) :: starEach es X.env := by rfl) : JIO X K (e :: es) (tCons (tVar i) ta) i (ioHere r) := ⟨pa_cons he hr.pe hs, by
  intro H0 O0 G σ H ρ v x Q ok t hv hf q
  obtain ⟨dd, e3, hf⟩ := bind_some' hf
  cases hf
  exact ⟨v, hv, hr.pu H0 O0 G σ H ρ dd _ ok t e3 fun vs H2 s2 sw => q [] vs _ s2 rfl sw⟩⟩
theorem jio_cons (he : PE X e te) (pv : PuV K te vf) (hr : JIO X K es ta i rr) (hs : starEach (e :: es) X.env = (false, eval e X.env) :: starEach es X.env := by rfl) : JIO X K (e :: es) (tCons te ta) i (ioCons vf rr) := ⟨pa_cons he hr.pe hs, by
  intro H0 O0 G σ H ρ v0 x Q ok t hv hf q
  obtain ⟨s, e1, hf⟩ := bind_some' hf
  obtain ⟨d, e2, hf⟩ := bind_some' hf
  obtain ⟨dd, e3, hf⟩ := bind_some' hf
  cases hf
  rw [asSh_eq e2] at e1
  refine pv H0 O0 G σ H ρ _ _ ok t e1 fun v H1 s1 sv => ?_
  exact hr.pu H0 O0 G σ H1 ρ v0 dd _ ok sv.str hv e3 fun us ws H2 s2 hl sw => q (v :: us) ws _ (s1.trans s2) (by simp [hl]) (StVs.cons (sv.grow s2) sw)⟩
theorem jas_S {f : PF} (he : JE X K e te f) (hr : JAs X K es ta r) (hs : starEach (e :: es) X.env = (false, eval e X.env) :: starEach es X.env := by rfl) : JAs X K (e :: es) (tCons te ta) (sCons (vS f) r) := jas_cons he.pe (pv_S he.pu) hr hs
theorem jio_S {f : PF} (he : JE X K e te f) (hr : JIO X K es ta i rr) (hs : starEach (e :: es) X.env = (false, eval e X.env) :: starEach es X.env := by rfl) : JIO X K (e :: es) (tCons te ta) i (ioCons (vS f) rr) := jio_cons he.pe (pv_S he.pu) hr hs
theorem jio_LS {f : PAs} (he : JL X K e te f) (hr : JIO X K es ta i rr) (hs : starEach (e :: es) X.env = (false, eval e X.env) :: starEach es X.env := by rfl) : JIO X K (e :: es) (tCons te ta) i (ioCons (vLS f) rr) := jio_cons he.pe (pv_LS he.pu) hr hs
def vCallL (f : List D → Option (List D)) (r : SEnv → Option (List D)) : SEnv → Option Sl := fun ρ => (r ρ).bind fun as => (f as).bind fun ds => some (.sh (.list ds))
theorem pv_callL {n : Nat} {f : List D → Option (List D)} (hf : Takes n f) (ha : PuAs K ta r) : PuV K (tCall (spL K n f) [] E0 ta) (vCallL f r) := by
  intro H0 O0 G σ H ρ s Q ok t h q
  obtain ⟨as, e1, h⟩ := bind_some' h
  obtain ⟨ds, e2, h⟩ := bind_some' h
  cases h
  refine ha H0 O0 G σ H ρ as _ ok t e1 fun vs H1 s1 sv => ?_
  rw [List.append_nil]
  obtain ⟨O, s0, n0, nd, g, sl, rv⟩ := sv.ex
  have okA := okAll ok s0 sl
  refine ⟨by rw [rv.length]; exact hf _ _ e2, O0 ++ O, as, ds, okA, rv, e2, fun a xs H' s' hn ha r' => q _ H' (s1.trans s') ?_⟩
  have na : a ∉ O0 ++ O := okA.fresh hn
  refine ⟨O, [], s0.trans s', n0, nd, g.trans (hid_same s'), sl.mono (hid_same s') fun b _ o e => s' b o e, rfl, ?_⟩
  exact .lst (SqL.of (by rw [List.nil_append, hid_out na]; exact ha)) (r'.mono (hid_sub fun b hb => List.mem_cons_of_mem _ hb))
end
abbrev TF := Addr → Cn → List D → List D → Option (D × Cn)
def spT (K : PySem.W.Frag) (n : Nat) (f : TF) : Sp := fun vs H Q _ => ∃ (a : Addr) (us ws : List V) (O : List Addr) (c : Cn) (xs ys : List D) (r : D × Cn), vs = us ++ .ref a :: ws ∧ vs.length = n ∧ us.length = xs.length ∧ OkO O H ∧ a ∉ O ∧ Held K (hid (a :: O) H) H a c ∧ RepAll K (hid (a :: O) H) (us ++ ws) (xs ++ ys) ∧ f a c xs ys = some r ∧
  ∀ v H', (∀ (b : Addr) (o : HO), b ≠ a → H b = some o → H' b = some o) → Held K (hid (a :: O) H') H' a r.2 → Rep K (hid (a :: O) H') v r.1 → Q v H'
def outT (p : Nat) (a : Addr) : Out → Option (D × Cn)
  | .ro d ρ => (ρ[p]?).bind fun s => (asTr s).bind fun q => if q.1 = a then some (d, q.2) else none
  | .nx ρ => (ρ[p]?).bind fun s => (asTr s).bind fun q => if q.1 = a then some (.none, q.2) else none
  | _ => none
def startT (m : Nat) (a : Addr) (c : Cn) (xs ys : List D) : SEnv := xs.map .sh ++ (.tr a c :: (ys.map .sh ++ List.replicate (m - (xs.length + (ys.length + 1))) .no))
def runT (n m p : Nat) (F : PSt) : TF := fun a c xs ys => if xs.length = p ∧ xs.length + (ys.length + 1) = n then (F (startT m a c xs ys)).bind (outT p a) else none
def TakesT (n : Nat) (f : TF) : Prop := ∀ a c xs ys r, f a c xs ys = some r → xs.length + (ys.length + 1) = n
theorem takesT (n m p : Nat) (F : PSt) : TakesT n (runT n m p F) := fun a c xs ys r h => by
  unfold runT at h
  by_cases hc : xs.length = p ∧ xs.length + (ys.length + 1) = n
  · exact hc.2
  · rw [if_neg hc] at h; cases h
theorem rep_split {K : PySem.W.Frag} {G : Hp} : ∀ {us ws : List V} {xs ys : List D}, us.length = xs.length → RepAll K G (us ++ ws) (xs ++ ys) → RepAll K G us xs ∧ RepAll K G ws ys
  | [], _, [], _, _, r => ⟨.nil, r⟩
  | [], _, _ :: _, _, h, _ => by simp at h
  | _ :: _, _, [], _, h, _ => by simp at h
  | _ :: _, _, _ :: _, _, h, .cons q r => by
    obtain ⟨a, b⟩ := rep_split (by simpa using h) r
    exact ⟨.cons q a, b⟩
theorem slots_app {K : PySem.W.Frag} {G H : Hp} {σ : St} {ρ : SEnv} {O : List Addr} (s : Slots K G H σ ρ O) : ∀ {us : List V} {xs : List D}, RepAll K G us xs → Slots K G H (us.map some ++ σ) (xs.map .sh ++ ρ) O
  | _, _, .nil => s
  | _, _, .cons r t => .sh r (slots_app s t)
theorem outT_some {p : Nat} {a : Addr} {o : Out} {r : D × Cn} (h : outT p a o = some r) : (∃ ρ, o = .ro r.1 ρ ∧ ρ[p]? = some (.tr a r.2)) ∨ (∃ ρ, o = .nx ρ ∧ r.1 = .none ∧ ρ[p]? = some (.tr a r.2)) := by
  cases o with
  | ro d ρ =>
    left
    obtain ⟨s, e1, h⟩ := bind_some' h
    obtain ⟨q, e2, h⟩ := bind_some' h
    have h : (if q.1 = a then some (d, q.2) else none) = some r := h
    by_cases hc : q.1 = a
    · rw [if_pos hc] at h
      cases h
      rw [asTr_eq e2, hc] at e1
      exact ⟨ρ, rfl, e1⟩
    · rw [if_neg hc] at h
      cases h
  | nx ρ =>
    right
    obtain ⟨s, e1, h⟩ := bind_some' h
    obtain ⟨q, e2, h⟩ := bind_some' h
    have h : (if q.1 = a then some (PyData.none, q.2) else none) = some r := h
    by_cases hc : q.1 = a
    · rw [if_pos hc] at h
      cases h
      rw [asTr_eq e2, hc] at e1
      exact ⟨ρ, rfl, rfl, e1⟩
    · rw [if_neg hc] at h
      cases h
  | _ => cases h
section
variable {P : Program} {w : World} {K : PySem.W.Frag} {mg : Str → Option Value} {base : Heap}
theorem str_startT {H : Hp} {O : List Addr} {a : Addr} {c : Cn} {us ws : List V} {xs ys : List D} (h : Held K (hid (a :: O) H) H a c) (hl : us.length = xs.length) (r : RepAll K (hid (a :: O) H) (us ++ ws) (xs ++ ys)) (N : List Str) :
    StR K (hid [a] H) O (hid (O ++ [a]) H) (start N (us ++ .ref a :: ws)) H (startT N.length a c xs ys) := by
  have sb : Same (hid (a :: O) H) (hid (O ++ [a]) H) := hid_sub fun b hb => mem_swap.mpr hb
  refine ⟨[a], hid_le, (fun b hb => by rw [List.mem_singleton.mp hb]; exact hid_in (by simp)), by simp, Same.refl _, ?_⟩
  obtain ⟨r1, r2⟩ := rep_split hl r
  unfold start startT
  have hl2 := r2.length
  have e : (us ++ V.ref a :: ws).map some ++ List.replicate (N.length - (us ++ V.ref a :: ws).length) none = us.map some ++ (some (.ref a) :: (ws.map some ++ List.replicate (N.length - (xs.length + (ys.length + 1))) none)) := by
    rw [List.map_append, List.length_append, List.length_cons, hl, hl2, List.map_cons, List.append_assoc, List.cons_append]
  rw [e]
  exact slots_app (.tr (h.mono sb fun _ z => z) (slots_start (r2.mono sb) _)) (r1.mono sb)
theorem Def.pureT {x : Str} {st : Stmt} {N ps : List Str} {k n m p : Nat} {F : PSt} {fn : TF} (hfn : fn = runT n m p F) (D : Def K mg x st ps) (S : FnScope N ps (defScope st)) (hn : ps.length = n) (hm : N.length = m)
    (hb : ∀ (f : Addr) (cdv : Value) (A : Around) (outer : List Env) (s : Shared) (H : Hp) (E : XK), Room k (A.deeper (envOfC x (defScope st) s.heap.objs.size f cdv)) →
      ∃ t, JSs (cxOf CX0 P w K mg base N x (defScope st) f cdv A outer s H E).nox K (defBody st) t F) : Callee P w K mg base (k + 1) x ps (spT K n fn) := by
  subst hfn hm
  refine D.ok S (fun vs H Q E h => by obtain ⟨_, _, _, _, _, _, _, _, _, hl, _⟩ := h; rw [hl, hn]) fun f cdv A outer s H vs Q E hr h => ?_
  obtain ⟨t, j⟩ := hb f cdv A outer s H E hr
  refine ⟨t, j.pe, ?_⟩
  obtain ⟨a, us, ws, O, c, xs, ys, r, rfl, hl, hu, ok, na, held, rep, hf, q⟩ := h
  unfold runT at hf
  by_cases hc : xs.length = p ∧ xs.length + (ys.length + 1) = n
  case neg => rw [if_neg hc] at hf; cases hf
  rw [if_pos hc] at hf
  obtain ⟨out, e1, hf⟩ := bind_some' hf
  have ok0 : OkO O (hid [a] H) := fun b hb => by
    obtain ⟨ob, e⟩ := ok b hb
    exact ⟨ob, by rw [hid_out fun z => na (by rw [← List.mem_singleton.mp z]; exact hb)]; exact e⟩
  refine j.pu (hid [a] H) O (hid (O ++ [a]) H) _ H _ out _ ok0 (str_startT held hu rep N) e1 ?_
  have keep : ∀ {H' : Hp}, Same (hid [a] H) H' → ∀ (b : Addr) (o : HO), b ≠ a → H b = some o → H' b = some o := fun s0 b o nb e => s0 b o (by rw [hid_out fun z => nb (List.mem_singleton.mp z)]; exact e)
  rcases outT_some hf with ⟨ρ, rfl, h0⟩ | ⟨ρ, rfl, hr1, h0⟩
  · intro v σ H' sv
    obtain ⟨O2, P2, s0, n2, nd, g, sl, hp, rv⟩ := sv.ex
    subst hp
    obtain ⟨h1, h2, h3⟩ := sl.getTr h0
    have sb : Same (hid (O ++ ([] ++ O2)) H') (hid (a :: O) H') := hid_sub fun b hb => by
      rcases List.mem_cons.mp hb with rfl | hb
      · exact List.mem_append_right _ h2
      · exact List.mem_append_left _ hb
    exact q v H' (keep s0) (h3.mono sb fun _ z => z) (rv.mono sb)
  · intro σ H' sv
    obtain ⟨O2, s0, n2, nd, g, sl⟩ := sv.ex
    obtain ⟨h1, h2, h3⟩ := sl.getTr h0
    have sb : Same (hid (O ++ O2) H') (hid (a :: O) H') := hid_sub fun b hb => by
      rcases List.mem_cons.mp hb with rfl | hb
      · exact List.mem_append_right _ h2
      · exact List.mem_append_left _ hb
    exact q .non H' (keep s0) (h3.mono sb fun _ z => z) (by rw [hr1]; exact .non)
end
def wCallT (i : Nat) (f : TF) (r : SEnv → Option (List D × List D)) : SEnv → Option (D × SEnv) := fun ρ => (ρ[i]?).bind fun s => (asTr s).bind fun q => (r ρ).bind fun x => (f q.1 q.2 x.1 x.2).bind fun y => some (y.1, ρ.set i (.tr q.1 y.2))
section
variable {X : Cx} {K : PySem.W.Frag}
theorem callT_core {i n : Nat} {f : TF} {r : SEnv → Option (List D × List D)} {ta : TA} (hf : TakesT n f) (ha : PuIO K ta i r) : PuW K (tCall (spT K n f) [] E0 ta) (wCallT i f r) := by
  intro H0 O0 G σ H ρ ρ' d Q ok t h q
  obtain ⟨s, e1, h⟩ := bind_some' h
  obtain ⟨⟨a, c⟩, e2, h⟩ := bind_some' h
  obtain ⟨⟨xs, ys⟩, e3, h⟩ := bind_some' h
  obtain ⟨y, e4, h⟩ := bind_some' h
  cases h
  have es := asTr_eq e2
  subst es
  obtain ⟨O9, s9, n9, nd9, g9, sl9⟩ := t.ex
  obtain ⟨hv, _, _⟩ := sl9.getTr e1
  refine ha H0 O0 G σ H ρ _ _ _ ok t hv e3 fun us ws H1 s1 hl sv => ?_
  rw [List.append_nil]
  obtain ⟨O, s0, n0, nd, g, sl, rv⟩ := sv.ex
  obtain ⟨h1, h2, held⟩ := sl.getTr e1
  have okA := okAll ok s0 sl
  have set : ∀ b, b ∈ a :: (O0 ++ O).filter (fun b => decide (b ≠ a)) ↔ b ∈ O0 ++ O := fun b => by
    constructor
    · intro hb
      rcases List.mem_cons.mp hb with rfl | hb
      · exact List.mem_append_right _ h2
      · exact (List.mem_filter.mp hb).1
    · intro hb
      by_cases e : b = a
      · rw [e]; exact List.mem_cons_self
      · exact List.mem_cons_of_mem _ (List.mem_filter.mpr ⟨hb, decide_eq_true e⟩)
  have to : ∀ {Hx : Hp}, Same (hid (O0 ++ O) Hx) (hid (a :: (O0 ++ O).filter (fun b => decide (b ≠ a))) Hx) := hid_sub fun b hb => (set b).mp hb
  have bk : ∀ {Hx : Hp}, Same (hid (a :: (O0 ++ O).filter (fun b => decide (b ≠ a))) Hx) (hid (O0 ++ O) Hx) := hid_sub fun b hb => (set b).mpr hb
  have hlen := rv.length
  refine ⟨a, us, ws, (O0 ++ O).filter (fun b => decide (b ≠ a)), c, xs, ys, y, rfl, by have := hf _ _ _ _ _ e4; rw [List.length_append, List.length_cons]; rw [List.length_append, List.length_append] at hlen; omega, hl, fun b hb => okA b (List.mem_filter.mp hb).1, (fun z => by have := of_decide_eq_true (List.mem_filter.mp z).2; exact this rfl), held.mono to fun _ z => z, rv.mono to, e4, ?_⟩
  intro v H' keep held' rv'
  refine q v H' ?_
  have big := hid_change (H' := H') (List.mem_append_right O0 h2) keep
  refine ⟨O, [], fun b o e => keep b o (fun z => by rw [z, n0 a h2] at e; cases e) (s0 b o e), n0, nd, ?_, ?_, rfl, ?_⟩
  · rw [List.nil_append]; exact g.trans big
  · rw [List.nil_append]; exact Slots.change keep nd sl big e1 (held'.mono bk fun _ z => z)
  · rw [List.nil_append]; exact rv'.mono bk
theorem jm_callT {i n k : Nat} {f : TF} {r : SEnv → Option (List D × List D)} {ta : TA} {x : Str} {ps : List Str} {e : Expr} {es : List Expr} {p pos : Pos} (hK : X.K = K) (c : Callee X.prog X.w X.K X.mg X.base k x ps (spT K n f)) (hf : TakesT n f) (hr : Room k X.A) (hg : Gl X x) (ha : JIO X K (e :: es) ta i r)
    (hdb : (x == ("__debug__" : Str)) = false := by decide) (hst : starEach (e :: es) X.env = (false, eval e X.env) :: starEach es X.env := by rfl) (hpl : (backTo pos (starEach es X.env)).any (·.1) = false := by rfl) :
    JM X K (.Call (.Name x p) (e :: es) [] pos) (tCall (spT K n f) [] E0 ta) (wCallT i f r) := ⟨pe_callC c hr hg ha.pe hdb hst hpl, callT_core hf ha.pu⟩
theorem js_setM {e : Expr} {te : TE} {wf : SEnv → Option (D × SEnv)} {x : Str} {j : Nat} {pos pos' : Pos} (h : JM X K e te wf) (hN : X.N.Nodup) (hi : X.N[j]? = some x) (hx : Loc X.env.scope x) (hs : swapsWith e (some (.Name x pos')) pos.line X.env = pure false := by rfl) (hf : X.fn x = true ∨ X.env.scope.names.lookup x = some .local := by first | exact .inl rfl | exact .inr rfl | assumption) :
    JS X K (.Assign [.Name x pos'] e pos) (tAsg te (gName j)) (pSetM j wf) := ⟨ps_set hN hi hx h.pe hs hf, by
  intro H0 O0 G σ H ρ o E ok t hf q
  obtain ⟨⟨d, ρ'⟩, e1, hf⟩ := bind_some' hf
  cases hf
  exact h.pu H0 O0 G σ H ρ ρ' d _ ok t e1 fun v H' sv => q _ H' (sv.set j)⟩
def pIfM (wf : SEnv → Option (D × SEnv)) (F F' : PSt) : PSt := fun ρ => (wf ρ).bind fun x => (asB x.1).bind fun b => if b = true then F' x.2 else F x.2
theorem js_ifNM {e : Expr} {te : TE} {wf : SEnv → Option (D × SEnv)} {a b : List Stmt} {ta tb : TS} {F F' : PSt} {p pos : Pos} (h : JM X K e te wf) (ha : JSs X K a ta F) (hb : JSs X K b tb F') (he : ∀ whole, isTrue e X.env whole = (do let v ← whole; standAt e.pos; holding [v] (truthy v)) := by intro _; rfl) :
    JS X K (.If (.UnaryOp .Not e p) a b pos) (tIfS (tNot (tB te)) ta tb) (pIfM wf F F') := ⟨ps_if (pt_not (pt_val h.pe he)) ha.pe hb.pe, by
  intro H0 O0 G σ H ρ o E ok t hf q
  obtain ⟨⟨d, ρ'⟩, e1, hf⟩ := bind_some' hf
  obtain ⟨c, e2, hf⟩ := bind_some' hf
  refine h.pu H0 O0 G σ H ρ ρ' d _ ok t e1 fun v H' sv => ?_
  obtain ⟨O, P, s0, n, nd, g, sl, hp, r⟩ := sv.ex
  have e2 : asB d = some c := e2
  cases r with
  | bl c' =>
    cases e2
    refine ⟨c, rfl, ?_⟩
    have hf : (if c = true then F' ρ' else F ρ') = some o := hf
    cases c with
    | true =>
      rw [if_pos rfl] at hf
      exact hb.pu H0 O0 G σ H' ρ' o E ok sv.str hf q
    | false =>
      rw [if_neg Bool.false_ne_true] at hf
      exact ha.pu H0 O0 G σ H' ρ' o E ok sv.str hf q
  | _ => cases e2⟩
end
end L2
set_option maxHeartbeats 4000000
namespace L2
open PySem PySem.Spec PyProof.Rows
inductive DR (K : PySem.W.Frag) (G : Hp) : List (Int × V) → List (Int × D) → Prop
  | nil : DR K G [] []
  | cons {k : Int} {v : V} {d : D} {ps : List (Int × V)} {kvs : List (Int × D)} : Rep K G v d → DR K G ps kvs → DR K G ((k, v) :: ps) ((k, d) :: kvs)
def mapK {α : Type} (ps : List (Int × α)) : List (Key × α) := ps.map fun p => (Sum.inl p.1, p.2)
section
variable {K : PySem.W.Frag} {G : Hp}
theorem DR.of : ∀ {ps : List (Int × V)} {kvs : List (Int × D)}, ps.map (·.1) = kvs.map (·.1) → RepAll K G (ps.map (·.2)) (kvs.map (·.2)) → DR K G ps kvs
  | [], [], _, _ => .nil
  | [], _ :: _, h, _ => by simp at h
  | _ :: _, [], h, _ => by simp at h
  | (k, v) :: ps, (j, d) :: kvs, h, .cons q r => by
    have h1 : k = j := by injection h
    have h2 : ps.map (·.1) = kvs.map (·.1) := by injection h
    subst h1
    exact .cons q (DR.of h2 r)
theorem DR.keys {ps : List (Int × V)} {kvs : List (Int × D)} (h : DR K G ps kvs) : ps.map (·.1) = kvs.map (·.1) := by
  induction h with
  | nil => rfl
  | cons _ _ ih => simp [ih]
theorem DR.vals {ps : List (Int × V)} {kvs : List (Int × D)} (h : DR K G ps kvs) : RepAll K G (ps.map (·.2)) (kvs.map (·.2)) := by
  induction h with
  | nil => exact .nil
  | cons r _ ih => exact .cons r ih
theorem getI_cons {α : Type} (p : Int × α) (l : List (Int × α)) (k : Int) : getI (p :: l) k = if p.1 = k then some p.2 else getI l k := by
  unfold getI
  rw [List.find?_cons]
  by_cases h : p.1 = k
  · simp [h]
  · simp [h]
theorem getI_map (k : Int) : ∀ ps : List (Int × V), valV (mapK ps) (Sum.inl k : Key) = getI ps k
  | [] => rfl
  | p :: ps => by
    rw [getI_cons]
    show valV ((Sum.inl p.1, p.2) :: mapK ps) (Sum.inl k : Key) = _
    by_cases h : p.1 = k
    · rw [if_pos h, valV_pos (by rw [h])]
    · rw [if_neg h, valV_neg (fun z => h (by injection z)), getI_map k ps]
theorem any_map {α : Type} (k : Int) (ps : List (Int × α)) : ((mapK ps).any fun kv => decide (kv.1 = (Sum.inl k : Key))) = ps.any fun kv => decide (kv.1 = k) := by
  unfold mapK
  rw [List.any_map]
  congr 1
  funext p
  exact decide_eq_decide.mpr ⟨fun z => by injection z, fun z => by show Sum.inl p.1 = _; rw [z]⟩
theorem putI_map (k : Int) (v : V) (ps : List (Int × V)) : putK (mapK ps) (Sum.inl k : Key) v = mapK (putI ps k v) := by
  unfold putK putI
  rw [any_map]
  by_cases h : (ps.any fun kv => decide (kv.1 = k)) = true
  · rw [if_pos h, if_pos h]
    unfold mapK
    rw [List.map_map, List.map_map]
    congr 1
    funext p
    show (if (Sum.inl p.1 : Key) = Sum.inl k then _ else _) = _
    by_cases hk : p.1 = k
    · simp [hk]
    · simp [hk]
  · rw [if_neg h, if_neg h]
    unfold mapK
    rw [List.map_append]
    rfl
theorem dropI_map (k : Int) (ps : List (Int × V)) : dropK (mapK ps) (Sum.inl k : Key) = mapK (dropI ps k) := by
  unfold dropK dropI mapK
  rw [List.filter_map]
  congr 1
  congr 1
  funext p
  show decide ((Sum.inl p.1 : Key) ≠ Sum.inl k) = _
  exact decide_eq_decide.mpr ⟨fun z w => z (by rw [w]), fun z w => z (by injection w)⟩
theorem DR.get {ps : List (Int × V)} {kvs : List (Int × D)} (h : DR K G ps kvs) (k : Int) : (∀ d, getI kvs k = some d → ∃ v, getI ps k = some v ∧ Rep K G v d) ∧ (getI ps k).isSome = (getI kvs k).isSome := by
  induction h with
  | nil => exact ⟨(fun d e => by cases e), rfl⟩
  | @cons j v d ps kvs r t ih =>
    rw [getI_cons, getI_cons]
    by_cases e : j = k
    · rw [if_pos e, if_pos e]
      exact ⟨fun d' z => by cases z; exact ⟨v, rfl, r⟩, rfl⟩
    · rw [if_neg e, if_neg e]
      exact ih
theorem DR.map1 {ps : List (Int × V)} {kvs : List (Int × D)} (h : DR K G ps kvs) {v : V} {d : D} (r : Rep K G v d) (k : Int) : DR K G (ps.map fun kv => if kv.1 = k then (kv.1, v) else kv) (kvs.map fun kv => if kv.1 = k then (kv.1, d) else kv) := by
  induction h with
  | nil => exact .nil
  | @cons j v' d' ps kvs r' t ih =>
    rw [List.map_cons, List.map_cons]
    by_cases e : j = k
    · simp only [e, if_true]
      exact .cons r ih
    · simp only [e, if_false]
      exact .cons r' ih
theorem DR.snoc {ps : List (Int × V)} {kvs : List (Int × D)} (h : DR K G ps kvs) {v : V} {d : D} (r : Rep K G v d) (k : Int) : DR K G (ps ++ [(k, v)]) (kvs ++ [(k, d)]) := by
  induction h with
  | nil => exact .cons r .nil
  | cons r' _ ih => exact .cons r' ih
theorem DR.any {ps : List (Int × V)} {kvs : List (Int × D)} (h : DR K G ps kvs) (k : Int) : (ps.any fun kv => decide (kv.1 = k)) = kvs.any fun kv => decide (kv.1 = k) := by
  induction h with
  | nil => rfl
  | cons _ _ ih => simp [ih]
theorem DR.put {ps : List (Int × V)} {kvs : List (Int × D)} (h : DR K G ps kvs) {v : V} {d : D} (r : Rep K G v d) (k : Int) : DR K G (putI ps k v) (putI kvs k d) := by
  unfold putI
  rw [h.any]
  by_cases e : (kvs.any fun kv => decide (kv.1 = k)) = true
  · rw [if_pos e, if_pos e]; exact h.map1 r k
  · rw [if_neg e, if_neg e]; exact h.snoc r k
theorem DR.drop {ps : List (Int × V)} {kvs : List (Int × D)} (h : DR K G ps kvs) (k : Int) : DR K G (dropI ps k) (dropI kvs k) := by
  unfold dropI
  induction h with
  | nil => exact .nil
  | @cons j v d ps kvs r t ih =>
    rw [List.filter_cons, List.filter_cons]
    by_cases e : j = k
    · simp only [e, ne_eq, not_true_eq_false, decide_false, Bool.false_eq_true, if_false]
      exact ih
    · simp only [e, ne_eq, not_false_eq_true, decide_true, if_true]
      exact .cons r ih
theorem DR.len {ps : List (Int × V)} {kvs : List (Int × D)} (h : DR K G ps kvs) : ps.length = kvs.length := by
  have := congrArg List.length h.keys
  simpa using this
theorem Held.dr {H : Hp} {a : Addr} {kvs : List (Int × D)} (h : Held K G H a (.dct kvs)) : ∃ ps : List (Int × V), H a = some (.dK (mapK ps)) ∧ DR K G ps kvs := by
  obtain ⟨ps, e, k, r⟩ := h
  exact ⟨ps, e, .of k r⟩
theorem DR.held {H : Hp} {a : Addr} {ps : List (Int × V)} {kvs : List (Int × D)} (h : DR K G ps kvs) (e : H a = some (.dK (mapK ps))) : Held K G H a (.dct kvs) := ⟨ps, e, h.keys, h.vals⟩
end
def inTr (i : Nat) (ρ : SEnv) : Option (Addr × List (Int × D)) := (ρ[i]?).bind fun s => (asTr s).bind fun q => (asDc q.2).bind fun kvs => some (q.1, kvs)
theorem inTr_eq {i : Nat} {ρ : SEnv} {q : Addr × List (Int × D)} (h : inTr i ρ = some q) : ρ[i]? = some (.tr q.1 (.dct q.2)) := by
  obtain ⟨s, e1, h⟩ := bind_some' h
  obtain ⟨x, e2, h⟩ := bind_some' h
  obtain ⟨kvs, e3, h⟩ := bind_some' h
  cases h
  rw [e1, asTr_eq e2, asDc_eq e3]
def vDGet (i : Nat) (fk : PF) : SEnv → Option Sl := fun ρ => (inTr i ρ).bind fun q => (fk (full ρ)).bind fun kd => (asI kd).bind fun k => (getI q.2 k).bind fun d => some (.sh d)
def bNotIn (i : Nat) (fk : PF) : SEnv → Option Bool := fun ρ => (fk (full ρ)).bind fun kd => (asI kd).bind fun k => (inTr i ρ).bind fun q => some (!(getI q.2 k).isSome)
def vSortK (i : Nat) : SEnv → Option Sl := fun ρ => (inTr i ρ).bind fun q => if q.2.length < 64 then some (.sh (.list ((sortI q.2).map fun p => .int p.1))) else none
def intsV : List (Int × D) → Option (List (Int × Int))
  | [] => some []
  | (k, .int x) :: r => (intsV r).bind fun l => some ((k, x) :: l)
  | _ => none
def vSortI (i : Nat) : SEnv → Option Sl := fun ρ => (inTr i ρ).bind fun q => (intsV q.2).bind fun ps => if ps.length < 64 then some (.sh (.list ((sortI ps).map fun p => .tuple [.int p.1, .int p.2]))) else none
def pSetD (i : Nat) (fk : PF) (vf : SEnv → Option Sl) : PSt := fun ρ => (vf ρ).bind fun s => (asSh s).bind fun d => (fk (full ρ)).bind fun kd => (asI kd).bind fun k => (inTr i ρ).bind fun q => if q.2.length < 1000 then some (.nx (ρ.set i (.tr q.1 (.dct (putI q.2 k d))))) else none
def pPopD (i : Nat) (fk : PF) : PSt := fun ρ => (inTr i ρ).bind fun q => (fk (full ρ)).bind fun kd => (asI kd).bind fun k => if (getI q.2 k).isSome = true then some (.nx (ρ.set i (.tr q.1 (.dct (dropI q.2 k))))) else none
theorem ints_of' {K : PySem.W.Frag} {G : Hp} {ps : List (Int × V)} {kvs : List (Int × D)} (h : DR K G ps kvs) : ∀ {l : List (Int × Int)}, intsV kvs = some l → mapK ps = l.map fun p => (Sum.inl p.1, V.int p.2) := by
  induction h with
  | nil => intro l e; cases e; rfl
  | @cons k v d ps kvs r t ih =>
    intro l e
    cases r with
    | int x =>
      obtain ⟨l', e1, e⟩ := bind_some' e
      cases e
      rw [List.map_cons, ← ih e1]
      rfl
    | _ => cases e
def PuTS (K : PySem.W.Frag) (tt : TT) (f : SEnv → Option Bool) : Prop := ∀ (H0 : Hp) (O0 : List Addr) (G : Hp) (σ : St) (H : Hp) (ρ : SEnv) (b : Bool) (Q : Bool → Hp → Prop), OkO O0 H0 → StR K H0 O0 G σ H ρ → f ρ = some b →
  (∀ H', Same H H' → StR K H0 O0 G σ H' ρ → Q b H') → tt σ H Q
def bT (p : PB) : SEnv → Option Bool := fun ρ => p (full ρ)
def bAnd (f g : SEnv → Option Bool) : SEnv → Option Bool := fun ρ => (f ρ).bind fun b => if b = true then g ρ else some false
def pIfB (c : SEnv → Option Bool) (F F' : PSt) : PSt := fun ρ => (c ρ).bind fun b => if b = true then F ρ else F' ρ
section
variable {X : Cx} {K : PySem.W.Frag}
theorem pts_T {tt : TT} {p : PB} (h : PuT K tt p) : PuTS K tt (bT p) := by
  intro H0 O0 G σ H ρ b Q ok t hf q
  have ⟨o1, e2⟩ := t.envF ok
  exact h O0 σ H (full ρ) b _ o1 e2 hf fun H' s' => q H' s' (t.grow s')
theorem pts_and {ta tb : TT} {f g : SEnv → Option Bool} (ha : PuTS K ta f) (hb : PuTS K tb g) : PuTS K (tAnd ta tb) (bAnd f g) := by
  intro H0 O0 G σ H ρ b Q ok t hf q
  obtain ⟨c, e1, hf⟩ := bind_some' hf
  refine ha H0 O0 G σ H ρ c _ ok t e1 fun H1 s1 t1 => ?_
  cases c with
  | true =>
    rw [if_pos rfl] at hf ⊢
    exact hb H0 O0 G σ H1 ρ b Q ok t1 hf fun H2 s2 t2 => q H2 (s1.trans s2) t2
  | false =>
    rw [if_neg Bool.false_ne_true] at hf ⊢
    cases hf
    exact q H1 s1 t1
theorem pts_notin {i : Nat} {ty : TE} {fk : PF} (hk : PuE K ty fk) : PuTS K (tB (tDNotIn ty (tVar i))) (bNotIn i fk) := by
  intro H0 O0 G σ H ρ b Q ok t hf q
  obtain ⟨kd, e1, hf⟩ := bind_some' hf
  obtain ⟨k, e2, hf⟩ := bind_some' hf
  obtain ⟨⟨a, kvs⟩, e3, hf⟩ := bind_some' hf
  cases hf
  have e3 := inTr_eq e3
  refine t.evalF hk ok e1 fun v H1 s1 t1 r => ?_
  obtain ⟨O, s0, n, nd, g, sl⟩ := t1.ex
  obtain ⟨h1, h2, held⟩ := sl.getTr e3
  obtain ⟨ps, hH, dr⟩ := held.dr
  cases r with
  | int k' =>
    cases e2
    refine ⟨_, h1, a, valV (mapK ps) (Sum.inl k : Key), rfl, DGet.k (k := Sum.inl k) hH, _, rfl, ?_⟩
    rw [getI_map, (dr.get k).2]
    exact q H1 s1 t1
  | _ => cases e2
theorem js_ifB {c : Expr} {a b : List Stmt} {tc : TT} {f : SEnv → Option Bool} {t u : TS} {F F' : PSt} {pos : Pos} (hc : PT X c tc) (pc : PuTS K tc f) (ha : JSs X K a t F) (hb : JSs X K b u F') : JS X K (.If c a b pos) (tIfS tc t u) (pIfB f F F') := ⟨ps_if hc ha.pe hb.pe, by
  intro H0 O0 G σ H ρ o E ok s hf q
  obtain ⟨k, e1, hf⟩ := bind_some' hf
  refine pc H0 O0 G σ H ρ k _ ok s e1 fun H' s' t' => ?_
  cases k with
  | true =>
    rw [if_pos rfl] at hf ⊢
    exact ha.pu H0 O0 G σ H' ρ o E ok t' hf q
  | false =>
    rw [if_neg Bool.false_ne_true] at hf ⊢
    exact hb.pu H0 O0 G σ H' ρ o E ok t' hf q⟩
theorem pv_dget {i : Nat} {ty : TE} {fk : PF} (hk : PuE K ty fk) : PuV K (tDGet (tVar i) ty) (vDGet i fk) := by
  intro H0 O0 G σ H ρ s Q ok t hf q
  obtain ⟨⟨a, kvs⟩, e3, hf⟩ := bind_some' hf
  obtain ⟨kd, e1, hf⟩ := bind_some' hf
  obtain ⟨k, e2, hf⟩ := bind_some' hf
  obtain ⟨d, e4, hf⟩ := bind_some' hf
  cases hf
  have e3 := inTr_eq e3
  obtain ⟨O9, s9, n9, nd9, g9, sl9⟩ := t.ex
  refine ⟨_, (sl9.getTr e3).1, t.evalF hk ok e1 fun v H1 s1 t1 r => ?_⟩
  obtain ⟨O, s0, n, nd, g, sl⟩ := t1.ex
  obtain ⟨h1, h2, held⟩ := sl.getTr e3
  obtain ⟨ps, hH, dr⟩ := held.dr
  obtain ⟨x, ex, rx⟩ := (dr.get k).1 d e4
  cases r with
  | int k' =>
    cases e2
    refine ⟨a, x, rfl, ?_, q x H1 s1 ⟨O, [], s0, n, nd, g, sl, rfl, rx⟩⟩
    rw [← ex, ← getI_map]
    exact DGet.k (k := Sum.inl k) hH
  | _ => cases e2
theorem pv_sortK {i : Nat} : PuV K (tCB (fun xs H Q => ∃ (d : Addr) (kvs : List (Key × V)) (ns : List Int), xs = [.ref d] ∧ H d = some (.dK kvs) ∧ kvs.map (·.1) = ns.map Sum.inl ∧ ns.length < 64 ∧
    ∀ (l : Addr) (ns' : List Int), (kvs.map (·.1)).Nodup → H l = none → ns'.Perm ns → ns'.Pairwise (· ≤ ·) → Q (.ref l) (upd H l (.lst (ns'.map V.int)))) (tCons (tVar i) tNil)) (vSortK i) := by
  intro H0 O0 G σ H ρ s Q ok t hf q
  obtain ⟨⟨a, kvs⟩, e3, hf⟩ := bind_some' hf
  have e3 := inTr_eq e3
  have hf : (if kvs.length < 64 then some (Sl.sh (.list ((sortI kvs).map fun p => .int p.1))) else none) = some s := hf
  by_cases h64 : kvs.length < 64
  case neg => rw [if_neg h64] at hf; cases hf
  rw [if_pos h64] at hf
  cases hf
  obtain ⟨O, s0, n, nd, g, sl⟩ := t.ex
  obtain ⟨h1, h2, held⟩ := sl.getTr e3
  obtain ⟨ps, hH, dr⟩ := held.dr
  have hkk : (mapK ps).map (·.1) = (kvs.map (·.1)).map (Sum.inl : Int → Key) := by
    rw [← dr.keys]
    unfold mapK
    rw [List.map_map, List.map_map]
    rfl
  refine ⟨_, h1, a, mapK ps, kvs.map (·.1), rfl, hH, hkk, by simpa using h64, fun l ns' nn hl hp hs => ?_⟩
  have nk : (kvs.map (·.1)).Nodup := by
    rw [hkk] at nn
    exact (List.pairwise_map.mp nn).imp fun hne e => hne (by rw [e])
  rw [sortI_keys nk hp hs]
  have okA := okAll ok s0 sl
  have s1 : Same H (upd H l (.lst (((sortI kvs).map (·.1)).map V.int))) := Same.new hl
  refine q _ _ s1 ⟨O, [], s0.trans s1, n, nd, g.trans (hid_same s1), sl.mono (hid_same s1) fun b _ o e => s1 b o e, rfl, ?_⟩
  refine .lst (SqL.of (by rw [List.nil_append, hid_out (okA.fresh hl)]; exact upd_same)) ?_
  have key : ∀ (G' : Hp) (L : List (Int × D)), RepAll K G' ((L.map (·.1)).map V.int) (L.map fun p => .int p.1) := fun G' L => by
    induction L with
    | nil => exact .nil
    | cons x L ih => exact .cons (.int _) ih
  exact key _ _
theorem pv_sortI {i : Nat} : PuV K (tCB (fun xs H Q => ∃ (v a : Addr) (ps : List (Int × Int)), xs = [.ref v] ∧ H v = some (.ext (viewP v a)) ∧ H a = some (.dK (ps.map fun p => (Sum.inl p.1, V.int p.2))) ∧ ps.length < 64 ∧ ((ps.map (·.1)).Nodup →
    ∀ (l : Addr) (H' : Hp) (qs : List Addr), Same H H' → H l = none → (∀ q ∈ qs, H q = none) → H' l = some (.lst (qs.map V.ref)) → qs.length = ps.length → (∀ (i : Nat) (q : Addr) (kv : Int × Int), qs[i]? = some q → (sortI ps)[i]? = some kv → H' q = some (.tup [.int kv.1, .int kv.2])) → Q (.ref l) H')) (tCons (tBM0 K "dict" rItems (tVar i)) tNil)) (vSortI i) := by
  intro H0 O0 G σ H ρ s Q ok t hf q
  obtain ⟨⟨a, kvs⟩, e3, hf⟩ := bind_some' hf
  obtain ⟨ps, e4, hf⟩ := bind_some' hf
  have e3 := inTr_eq e3
  by_cases h64 : ps.length < 64
  case neg => rw [if_neg h64] at hf; cases hf
  rw [if_pos h64] at hf
  cases hf
  obtain ⟨O, s0, n, nd, g, sl⟩ := t.ex
  obtain ⟨h1, h2, held⟩ := sl.getTr e3
  obtain ⟨qs0, hH, dr⟩ := held.dr
  rw [ints_of' dr e4] at hH
  have okA := okAll ok s0 sl
  refine ⟨_, h1, .inr (.inr (.inl ⟨rfl, .inl ⟨_, hH⟩⟩)), a, _, rfl, rfl, hH, fun v hv => ?_⟩
  have sv : Same H (upd H v (.ext (viewP v a))) := Same.new hv
  refine ⟨v, a, ps, rfl, upd_same, sv _ _ hH, h64, fun nn l H' qs s' hl hqn hlst hlen hq => ?_⟩
  have s1 := sv.trans s'
  refine q _ _ s1 ⟨O, [], s0.trans s1, n, nd, g.trans (hid_same s1), sl.mono (hid_same s1) fun b _ o e => s1 b o e, rfl, ?_⟩
  refine .lst (SqL.of (by rw [List.nil_append, hid_out ((okA.mono sv).fresh hl)]; exact hlst)) ?_
  rw [List.nil_append]
  have key : ∀ (qs : List Addr) (L : List (Int × Int)), qs.length = L.length → (∀ q ∈ qs, q ∉ O0 ++ O) → (∀ (i : Nat) (q : Addr) (kv : Int × Int), qs[i]? = some q → L[i]? = some kv → H' q = some (.tup [.int kv.1, .int kv.2])) → RepAll K (hid (O0 ++ O) H') (qs.map V.ref) (L.map fun p => .tuple [.int p.1, .int p.2]) := by
    intro qs
    induction qs with
    | nil => intro L h _ _; cases L with | nil => exact .nil | cons _ _ => simp at h
    | cons x qs ih =>
      intro L h nx hx
      cases L with
      | nil => simp at h
      | cons y L =>
        refine .cons (.tup (SqT.of (by rw [hid_out (nx x List.mem_cons_self)]; exact hx 0 x y rfl rfl)) (.cons (.int _) (.cons (.int _) .nil))) (ih L (by simpa using h) (fun q hq => nx q (List.mem_cons_of_mem _ hq)) fun i q kv e1 e2 => hx (i + 1) q kv (by simpa using e1) (by simpa using e2))
  exact key qs (sortI ps) (by rw [hlen, sortI_len]) (fun q hq => (okA.mono sv).fresh (hqn q hq)) hq
theorem js_setD {i : Nat} {x : Str} {e ix : Expr} {te ti : TE} {fi : PF} {vf : SEnv → Option Sl} {p spos pos : Pos} (hu : X.A.units + 1 < cLine) (he : PE X e te) (pv : PuV K te vf) (hi : JE X K ix ti fi) (ho : PE X (.Name x p) (tVar i)) (hs : swapsWith e (some (.Subscript (.Name x p) ix spos)) pos.line X.env = pure false := by rfl) :
    JS X K (.Assign [.Subscript (.Name x p) ix spos] e pos) (sDPut (tVar i) ti te) (pSetD i fi vf) := ⟨ps_dput hu ho hi.pe he hs, by
  intro H0 O0 G σ H ρ o E ok t hf q
  obtain ⟨s, e1, hf⟩ := bind_some' hf
  obtain ⟨d, e2, hf⟩ := bind_some' hf
  obtain ⟨kd, e5, hf⟩ := bind_some' hf
  obtain ⟨k, e6, hf⟩ := bind_some' hf
  obtain ⟨⟨a, kvs⟩, e3, hf⟩ := bind_some' hf
  have e3 := inTr_eq e3
  rw [asSh_eq e2] at e1
  by_cases hc : kvs.length < 1000
  case neg => rw [if_neg hc] at hf; cases hf
  rw [if_pos hc] at hf
  cases hf
  refine pv H0 O0 G σ H ρ _ _ ok t e1 fun v H1 s1 sv => ?_
  obtain ⟨O9, s9, n9, nd9, g9, sl9⟩ := sv.str.ex
  refine ⟨_, (sl9.getTr e3).1, ?_⟩
  refine sv.str.evalF hi.pu ok e5 fun vi H2 s2 t2 ri => ?_
  obtain ⟨O, P, s0, n, nd, g, sl, hp, rv⟩ := (sv.grow s2).ex
  subst hp
  obtain ⟨h1, h2, held⟩ := sl.getTr e3
  obtain ⟨ps, hH, dr⟩ := held.dr
  cases ri with
  | int k' =>
    cases e6
    refine ⟨a, _, rfl, DPut.k (k := Sum.inl k) hH (by have hl : ps.length = kvs.length := dr.len; unfold mapK; rw [List.length_map, hl, sizeLine_eq]; omega), q σ _ ?_⟩
    have hh : ∀ o, hid (O0 ++ ([] ++ O)) (upd H2 a o) = hid (O0 ++ ([] ++ O)) H2 := fun o => hid_upd (List.mem_append_right _ h2)
    refine ⟨O, fun b o e => by rw [upd_ne (ne_of_none e (n a h2))]; exact s0 b o e, n, nd, ?_, ?_⟩
    · have := hh (.dK (putK (mapK ps) (Sum.inl k : Key) v)); rw [List.nil_append] at this; rw [this]; exact g
    · have := hh (.dK (putK (mapK ps) (Sum.inl k : Key) v)); rw [List.nil_append] at this; rw [this]
      refine Slots.writeTr ?_ nd sl e3
      exact (dr.put rv k).held (by rw [putI_map]; exact upd_same)
  | _ => cases e6⟩
theorem js_popD {i : Nat} {x : Str} {ix : Expr} {ti : TE} {fi : PF} {p apos cpos pos : Pos} (hi : JE X K ix ti fi) (ho : PE X (.Name x p) (tVar i)) (m : M1 X (.Name x p) "pop" apos ix cpos) (hs : swapsWith (.Call (.Attribute (.Name x p) "pop" apos) [ix] [] cpos) none pos.line X.env = pure false := by rfl) :
    JS X K (.Expr (.Call (.Attribute (.Name x p) "pop" apos) [ix] [] cpos) pos) (tDrop (tDPop1 (tVar i) ti)) (pPopD i fi) := ⟨ps_expr (pe_dpop1 ho hi.pe m) hs, by
  intro H0 O0 G σ H ρ o E ok t hf q
  obtain ⟨⟨a, kvs⟩, e3, hf⟩ := bind_some' hf
  obtain ⟨kd, e5, hf⟩ := bind_some' hf
  obtain ⟨k, e6, hf⟩ := bind_some' hf
  have e3 := inTr_eq e3
  by_cases hc : (getI kvs k).isSome = true
  case neg => rw [if_neg hc] at hf; cases hf
  rw [if_pos hc] at hf
  cases hf
  obtain ⟨O9, s9, n9, nd9, g9, sl9⟩ := t.ex
  obtain ⟨hv9, _, held9⟩ := sl9.getTr e3
  obtain ⟨ps9, hH9, _⟩ := held9.dr
  refine ⟨_, hv9, a, rfl, .inl ⟨_, .inl hH9⟩, ?_⟩
  refine t.evalF hi.pu ok e5 fun vi H2 s2 t2 ri => ?_
  obtain ⟨O, s0, n, nd, g, sl⟩ := t2.ex
  obtain ⟨h1, h2, held⟩ := sl.getTr e3
  obtain ⟨ps, hH, dr⟩ := held.dr
  cases ri with
  | int k' =>
    cases e6
    have hsome : (getI ps k).isSome = true := by rw [(dr.get k).2]; exact hc
    obtain ⟨v, hv⟩ := Option.isSome_iff_exists.mp hsome
    refine ⟨mapK ps, Sum.inl k, v, hH, rfl, by rw [getI_map]; exact hv, q σ _ ?_⟩
    have hh : ∀ o, hid (O0 ++ O) (upd H2 a o) = hid (O0 ++ O) H2 := fun o => hid_upd (List.mem_append_right _ h2)
    refine ⟨O, fun b o e => by rw [upd_ne (ne_of_none e (n a h2))]; exact s0 b o e, n, nd, by rw [hh]; exact g, ?_⟩
    rw [hh]
    refine Slots.writeTr ?_ nd sl e3
    exact (dr.drop k).held (by rw [dropI_map]; exact upd_same)
  | _ => cases e6⟩
def pSetT (i : Nat) (fi : PF) (vf : SEnv → Option Sl) : PSt := fun ρ => (vf ρ).bind fun s => (asSh s).bind fun d => (fi (full ρ)).bind fun k => (asI k).bind fun k => (ρ[i]?).bind fun s' => (asTr s').bind fun q => (asLc q.2).bind fun ds => (ixN ds.length k).bind fun j => some (.nx (ρ.set i (.tr q.1 (.lst (ds.set j d)))))
theorem js_setT (i : Nat) {x : Str} {e ix : Expr} {te ti : TE} {fi : PF} {vf : SEnv → Option Sl} {p spos pos : Pos} (he : PE X e te) (pv : PuV K te vf) (hi : JE X K ix ti fi) (hN : X.N[i]? = some x := by rfl) (hv : Vis X.env.scope x := by first | exact Or.inl rfl | exact Or.inr (Or.inl rfl) | exact Or.inr (Or.inr rfl)) (hd : (x == ("__debug__" : Str)) = false := by decide)
    (hcd : (x == ("__classdict__" : Str)) = false := by decide)
    (ha : ∀ v, assign (.Subscript (.Name x p) ix spos) X.env v = (do
      let ov ← holding [v] (eval (.Name x p) X.env)
      let iv ← holding [v, ov] (eval ix X.env)
      standAt spos
      holding [v, ov, iv] (setItem ov iv v)
      release [v, ov, iv] []) := by intro _; rfl)
    (hs : swapsWithSole [.Subscript (.Name x p) ix spos] e pos.line X.env = pure false := by rfl) (hw : swappedStores [.Subscript (.Name x p) ix spos] e X.env = pure none := by rfl)
    (h1 : (assignEach [.Subscript (.Name x p) ix spos] X.env).map (·.2) = [assign (.Subscript (.Name x p) ix spos) X.env] := by rfl) :
    JS X K (.Assign [.Subscript (.Name x p) ix spos] e pos) (tAsg te (gSub (tVar i) ti rSetL)) (pSetT i fi vf) := ⟨ps_asg he (pg_sub (pe_var hN hv hd hcd) hi.pe set_list ha) hs hw h1, by
  intro H0 O0 G σ H ρ o E ok s hf q
  obtain ⟨sl, e1, hf⟩ := bind_some' hf
  obtain ⟨d, e2, hf⟩ := bind_some' hf
  obtain ⟨kd, e5, hf⟩ := bind_some' hf
  obtain ⟨k, e6, hf⟩ := bind_some' hf
  obtain ⟨sl2, e3, hf⟩ := bind_some' hf
  obtain ⟨⟨a, c⟩, e4, hf⟩ := bind_some' hf
  obtain ⟨ds, e8, hf⟩ := bind_some' hf
  obtain ⟨j, e7, hf⟩ := bind_some' hf
  rw [asSh_eq e2] at e1
  have e8 : c = .lst ds := asLc_eq e8
  subst e8
  rw [asTr_eq e4] at e3
  cases hf
  refine pv H0 O0 G σ H ρ _ _ ok s e1 fun v H' s' sv => ?_
  obtain ⟨O9, s9, n9, nd9, g9, sl9⟩ := sv.str.ex
  refine ⟨_, (sl9.getTr e3).1, ?_⟩
  refine sv.str.evalF hi.pu ok e5 fun vi H2 s2 t2 ri => ?_
  obtain ⟨O, P, s0, n, nd, g, sl, hp, rv⟩ := (sv.grow s2).ex
  subst hp
  obtain ⟨h1, h2, xs, hH, hr⟩ := sl.getTr e3
  cases ri with
  | int m =>
    cases e6
    refine ⟨a, xs, _, j, rfl, rfl, hH, by rw [hr.length]; exact e7, q σ _ ?_⟩
    have hh : ∀ o, hid (O0 ++ ([] ++ O)) (upd H2 a o) = hid (O0 ++ ([] ++ O)) H2 := fun o => hid_upd (List.mem_append_right _ h2)
    refine ⟨O, fun b o e => by rw [upd_ne (ne_of_none e (n a h2))]; exact s0 b o e, n, nd, ?_, ?_⟩
    · have := hh (.lst (xs.set j v)); rw [List.nil_append] at this; rw [this]; exact g
    · have := hh (.lst (xs.set j v)); rw [List.nil_append] at this; rw [this]
      exact Slots.writeTr (show Held K (hid (O0 ++ O) H2) (upd H2 a (.lst (xs.set j v))) a (.lst (ds.set j d)) from ⟨_, upd_same, hr.set rv j⟩) nd sl e3
  | _ => cases e6⟩
open Classical in
noncomputable def anyA (f : Addr → Option Out) : Option Out := if h : ∃ d, ∀ a, f a = some (.rt d) then some (.rt h.choose) else none
theorem anyA_eq {f : Addr → Option Out} {d : D} (h : ∀ a, f a = some (.rt d)) : anyA f = some (.rt d) := by
  have hx : ∃ d, ∀ a, f a = some (.rt d) := ⟨d, h⟩
  unfold anyA
  rw [dif_pos hx]
  have := hx.choose_spec 0
  rw [h 0] at this
  have e : d = hx.choose := by injection this with this; injection this
  rw [← e]
theorem anyA_some {f : Addr → Option Out} {o : Out} (h : anyA f = some o) : ∀ a, f a = some o := by
  unfold anyA at h
  by_cases hx : ∃ d, ∀ a, f a = some (.rt d)
  · rw [dif_pos hx] at h
    cases h
    exact hx.choose_spec
  · rw [dif_neg hx] at h
    cases h
noncomputable def pOwn (i : Nat) (F : PSt) : PSt := fun ρ => (ρ[i]?).bind fun s => (asOw s).bind fun ds => anyA fun a => F (ρ.set i (.tr a (.lst ds)))
noncomputable def pNewD (i : Nat) (F : PSt) : PSt := fun ρ => anyA fun a => F (ρ.set i (.tr a (.dct [])))
theorem Slots.toTr {G H : Hp} : ∀ {σ : St} {ρ : SEnv} {O : List Addr} {i : Nat} {ds : List D}, Slots K G H σ ρ O → ρ[i]? = some (.ow ds) → ∃ a, Slots K G H σ (ρ.set i (.tr a (.lst ds))) O
  | _, _, _, _, _, .nil, h => by cases h
  | _, _, _, 0, _, .no t, h => by cases h
  | _, _, _, 0, _, .sh _ t, h => by cases h
  | _, _, _, 0, _, .on _ _ t, h => by cases h
  | _, _, _, 0, _, .tr _ t, h => by cases h
  | _, _, _, 0, _, .ow e r t, h => by cases h; exact ⟨_, .tr ⟨_, e, r⟩ t⟩
  | _, _, _, i + 1, _, .no t, h => by obtain ⟨a, z⟩ := Slots.toTr (i := i) t h; exact ⟨a, .no z⟩
  | _, _, _, i + 1, _, .sh q t, h => by obtain ⟨a, z⟩ := Slots.toTr (i := i) t h; exact ⟨a, .sh q z⟩
  | _, _, _, i + 1, _, .ow e q t, h => by obtain ⟨a, z⟩ := Slots.toTr (i := i) t h; exact ⟨a, .ow e q z⟩
  | _, _, _, i + 1, _, .on e q t, h => by obtain ⟨a, z⟩ := Slots.toTr (i := i) t h; exact ⟨a, .on e q z⟩
  | _, _, _, i + 1, _, .tr e t, h => by obtain ⟨a, z⟩ := Slots.toTr (i := i) t h; exact ⟨a, .tr e z⟩
theorem jss_own (i : Nat) {rest : List Stmt} {u : TS} {F : PSt} (h : JSs X K rest u F) : JSs X K rest u (pOwn i F) := ⟨h.pe, by
  intro H0 O0 G σ H ρ o E ok t hf q
  obtain ⟨s, e1, hf⟩ := bind_some' hf
  obtain ⟨ds, e2, hf⟩ := bind_some' hf
  rw [asOw_eq e2] at e1
  obtain ⟨O, s0, n, nd, g, sl⟩ := t.ex
  obtain ⟨a, sl2⟩ := sl.toTr e1
  exact h.pu H0 O0 G σ H _ o E ok ⟨O, s0, n, nd, g, sl2⟩ (anyA_some hf a) q⟩
theorem jss_newD {i : Nat} {x : Str} {rest : List Stmt} {u : TS} {F : PSt} {p pos pos' : Pos} (hN : X.N.Nodup) (hi : X.N[i]? = some x) (hx : Loc X.env.scope x) (h : JSs X K rest u F) (hs : swapsWith (.Dict [] [] p) (some (.Name x pos')) pos.line X.env = pure false := by rfl) (hf : X.fn x = true ∨ X.env.scope.names.lookup x = some .local := by first | exact .inl rfl | exact .inr rfl | assumption) :
    JSs X K (.Assign [.Name x pos'] (.Dict [] [] p) pos :: rest) (tSeq (tAsg tDNewK (gName i)) u) (pNewD i F) := ⟨pss_cons (ps_set hN hi hx pe_dnewK hs hf) h.pe, by
  intro H0 O0 G σ H ρ o E ok t hf q
  intro a hn
  refine h.pu H0 O0 G _ _ _ o E ok ?_ (anyA_some hf a) q
  obtain ⟨O, s0, n, nd, g, sl⟩ := t.ex
  have okA := okAll ok s0 sl
  have s' : Same H (upd H a (.dK [])) := Same.new hn
  have na : a ∉ O := fun z => okA.fresh hn (List.mem_append_right _ z)
  have big : Same (hid (O0 ++ O) H) (hid (O0 ++ ([a] ++ O)) (upd H a (.dK []))) := fun b o e => by
    obtain ⟨n1, e⟩ := hid_some e
    have nb : b ≠ a := ne_of_none e hn
    rw [hid_out (by simp at n1 ⊢; exact ⟨n1.1, nb, n1.2⟩)]
    exact s' b o e
  have sv : StV K H0 O0 G σ (upd H a (.dK [])) ρ (.ref a) (.tr a (.dct [])) := ⟨O, [a], s0.trans s', n, nd, g.trans big, sl.mono big fun b _ o e => s' b o e, rfl, rfl, na, s0.free hn, [], upd_same, rfl, .nil⟩
  exact sv.set i⟩
end
end L2
namespace L2
open PySem PySem.Spec PyProof.Rows
section
variable {X : Cx} {K : PySem.W.Frag} {e ix : Expr} {te ti : TE} {f fi : PF} {fl : PAs} {pos : Pos} {x : Str} {i k n : Nat} {es : List Expr} {ta : TA} {r : SEnv → Option (List D)} {ps : List Str}
theorem hu1' {A : Around} {k : Nat} (hr : Room k A) : A.units + 1 < cLine := by have := hr.units; omega
theorem js_retTS (he : JE X K e te f) : JS X K (.Return (some e) pos) (tRet te) (pRetOb (vS f)) := js_retOb he.pe (pv_S he.pu)
theorem js_retTL (he : JL X K e te fl) : JS X K (.Return (some e) pos) (tRet te) (pRetOb (vSL fl)) := js_retOb he.pe (pv_SL he.pu)
theorem js_retTC {m : List D → Option (List D)} {p cpos : Pos} (C : Callee X.prog X.w X.K X.mg X.base k x ps (spL K n m)) (hf : Takes n m) (hr : Room k X.A) (hg : Gl X x) (ha : JAs X K (e :: es) ta r) (hdb : (x == ("__debug__" : Str)) = false := by decide)
    (hst : starEach (e :: es) X.env = (false, eval e X.env) :: starEach es X.env := by rfl) (hpl : (backTo cpos (starEach es X.env)).any (·.1) = false := by rfl) : JS X K (.Return (some (.Call (.Name x p) (e :: es) [] cpos)) pos) (tRet (tCall (spL K n m) [] E0 ta)) (pRetOb (vCallL m r)) := js_retOb (pe_callC C hr hg ha.pe hdb hst hpl) (pv_callL hf ha.pu)
end
section
variable {X : Cx} {K : PySem.W.Frag} {i : Nat} {p apos cpos pos pos' : Pos} {x y : Str}
theorem pe_sortK (hh : X.A.handled = none) (hg : Gl X "sorted") (hm : X.mg "sorted" = none) (ho : PE X (.Name x p) (tVar i)) (he : starEach [Expr.Name x p] X.env = (false, eval (.Name x p) X.env) :: starEach [] X.env := by rfl) : PE X (.Call (.Name "sorted" apos) [.Name x p] [] cpos) (tCB (fun xs H Q => ∃ (d : Addr) (kvs : List (Key × V)) (ns : List Int), xs = [.ref d] ∧ H d = some (.dK kvs) ∧ kvs.map (·.1) = ns.map Sum.inl ∧ ns.length < 64 ∧
    ∀ (l : Addr) (ns' : List Int), (kvs.map (·.1)).Nodup → H l = none → ns'.Perm ns → ns'.Pairwise (· ≤ ·) → Q (.ref l) (upd H l (.lst (ns'.map V.int)))) (tCons (tVar i) tNil)) := pe_callB (call_sortedD hh) hg hm (by rfl) (pa_cons ho pa_nil he) (by decide) (by decide) he rfl
theorem pe_sortI {q : Pos} (hK : X.K = K) (hh : X.A.handled = none) (hg : Gl X "sorted") (hm : X.mg "sorted" = none) (ho : PE X (.Name x p) (tVar i)) (hbase : attributeBase (.Name x p) "items" X.env (eval (.Name x p) X.env) = eval (.Name x p) X.env := by rfl) (hline : (apos.endLine == cpos.line) = true := by rfl) (he : starEach [Expr.Call (.Attribute (.Name x p) "items" apos) [] [] cpos] X.env = (false, eval (.Call (.Attribute (.Name x p) "items" apos) [] [] cpos) X.env) :: starEach [] X.env := by rfl) :
    PE X (.Call (.Name "sorted" q) [.Call (.Attribute (.Name x p) "items" apos) [] [] cpos] [] pos) (tCB (fun xs H Q => ∃ (v a : Addr) (ps : List (Int × Int)), xs = [.ref v] ∧ H v = some (.ext (viewP v a)) ∧ H a = some (.dK (ps.map fun p => (Sum.inl p.1, V.int p.2))) ∧ ps.length < 64 ∧ ((ps.map (·.1)).Nodup →
    ∀ (l : Addr) (H' : Hp) (qs : List Addr), Same H H' → H l = none → (∀ q ∈ qs, H q = none) → H' l = some (.lst (qs.map V.ref)) → qs.length = ps.length → (∀ (i : Nat) (q : Addr) (kv : Int × Int), qs[i]? = some q → (sortI ps)[i]? = some kv → H' q = some (.tup [.int kv.1, .int kv.2])) → Q (.ref l) H')) (tCons (tBM0 K "dict" rItems (tVar i)) tNil)) := by
  subst hK
  exact pe_callB (call_sortI hh) hg hm (by rfl) (pa_cons (pe_bm0 PySem.F.plainAttrs_dict PySem.F.slot_dict_items PySem.F.type_dict_items mt_items ho hbase hline) pa_nil he) (by decide) (by decide) he rfl
theorem js_setDS {e ix : Expr} {te ti : TE} {f fi : PF} {spos : Pos} (hu : X.A.units + 1 < cLine) (he : JE X K e te f) (hi : JE X K ix ti fi) (ho : PE X (.Name x p) (tVar i)) (hs : swapsWith e (some (.Subscript (.Name x p) ix spos)) pos.line X.env = pure false := by rfl) :
    JS X K (.Assign [.Subscript (.Name x p) ix spos] e pos) (sDPut (tVar i) ti te) (pSetD i fi (vS f)) := js_setD hu he.pe (pv_S he.pu) hi ho hs
theorem js_setTS (i : Nat) {x : Str} {e ix : Expr} {te ti : TE} {f fi : PF} {p spos pos : Pos} (he : JE X K e te f) (hi : JE X K ix ti fi) (hN : X.N[i]? = some x := by rfl) (hv : Vis X.env.scope x := by first | exact Or.inl rfl | exact Or.inr (Or.inl rfl) | exact Or.inr (Or.inr rfl)) (hd : (x == ("__debug__" : Str)) = false := by decide)
    (hcd : (x == ("__classdict__" : Str)) = false := by decide)
    (ha : ∀ v, assign (.Subscript (.Name x p) ix spos) X.env v = (do
      let ov ← holding [v] (eval (.Name x p) X.env)
      let iv ← holding [v, ov] (eval ix X.env)
      standAt spos
      holding [v, ov, iv] (setItem ov iv v)
      release [v, ov, iv] []) := by intro _; rfl)
    (hs : swapsWithSole [.Subscript (.Name x p) ix spos] e pos.line X.env = pure false := by rfl) (hw : swappedStores [.Subscript (.Name x p) ix spos] e X.env = pure none := by rfl)
    (h1 : (assignEach [.Subscript (.Name x p) ix spos] X.env).map (·.2) = [assign (.Subscript (.Name x p) ix spos) X.env] := by rfl) :
    JS X K (.Assign [.Subscript (.Name x p) ix spos] e pos) (tAsg te (gSub (tVar i) ti rSetL)) (pSetT i fi (vS f)) := js_setT i he.pe (pv_S he.pu) hi hN hv hd hcd ha hs hw h1
theorem jas_D {ix : Expr} {ti : TE} {fi : PF} {es : List Expr} {ta : TA} {r : SEnv → Option (List D)} (hu : X.A.units + 1 < cLine) (ho : PE X (.Name x p) (tVar i)) (hi : JE X K ix ti fi) (hn : NoSl ix) (hr : JAs X K es ta r) (hs : starEach (.Subscript (.Name x p) ix pos :: es) X.env = (false, eval (.Subscript (.Name x p) ix pos) X.env) :: starEach es X.env := by rfl) :
    JAs X K (.Subscript (.Name x p) ix pos :: es) (tCons (tDGet (tVar i) ti) ta) (sCons (vDGet i fi) r) := jas_cons (pe_dget hu ho hi.pe hn) (pv_dget hi.pu) hr hs
theorem js_ifNI {ix c : Expr} {ti : TE} {fi : PF} {tc : TT} {pc : PB} {a b : List Stmt} {t u : TS} {F F' : PSt} {q q2 : Pos} (hu : X.A.units + 1 < cLine) (hi : JE X K ix ti fi) (ho : PE X (.Name x p) (tVar i)) (hc : JT X K c tc pc) (ha : JSs X K a t F) (hb : JSs X K b u F') :
    JS X K (.If (.BoolOp .And [.Compare ix [.NotIn] [.Name x p] q, c] q2) a b pos) (tIfS (tAnd (tB (tDNotIn ti (tVar i))) tc) t u) (pIfB (bAnd (bNotIn i fi) (bT pc)) F F') := js_ifB (pw_and (pt_cmp (pc_dnotin hu hi.pe ho)) (pw_and1 hc.pe)).pt (pts_and (pts_notin hi.pu) (pts_T hc.pu)) ha hb
end
end L2
namespace L2
open PySem PySem.Spec PyProof.Rows
theorem view_trL (a : Addr) (ds : List D) : Sl.view (.tr a (.lst ds)) = some (.list ds) := rfl
theorem view_trD (a : Addr) (kvs : List (Int × D)) : Sl.view (.tr a (.dct kvs)) = none := rfl
theorem mask_trX (a : Addr) (c : Cn) : Sl.mask (.tr a c) = none := rfl
theorem asTr_tr (a : Addr) (c : Cn) : asTr (.tr a c) = some (a, c) := rfl
theorem asLc_lst (ds : List D) : asLc (.lst ds) = some ds := rfl
theorem set_of {i : Nat} {vf : SEnv → Option Sl} {ρ : SEnv} {s : Sl} (h : vf ρ = some s) : pSet i vf ρ = some (.nx (ρ.set i s)) := by
  unfold pSet
  rw [h]
  rfl
theorem inTr_of {i : Nat} {ρ : SEnv} {a : Addr} {kvs : List (Int × D)} (h : ρ[i]? = some (.tr a (.dct kvs))) : inTr i ρ = some (a, kvs) := by
  unfold inTr
  rw [h]
  rfl
theorem setD_of {i : Nat} {fk : PF} {vf : SEnv → Option Sl} {ρ : SEnv} {a : Addr} {kvs : List (Int × D)} {d : D} {k : Int} (h : vf ρ = some (.sh d)) (hk : fk (full ρ) = some (.int k)) (hi : ρ[i]? = some (.tr a (.dct kvs))) (hl : kvs.length < 1000) : pSetD i fk vf ρ = some (.nx (ρ.set i (.tr a (.dct (putI kvs k d))))) := by
  unfold pSetD
  rw [h, inTr_of hi, hk]
  show (if kvs.length < 1000 then _ else _) = _
  rw [if_pos hl]
theorem popD_of {i : Nat} {fk : PF} {ρ : SEnv} {a : Addr} {kvs : List (Int × D)} {k : Int} (hk : fk (full ρ) = some (.int k)) (hi : ρ[i]? = some (.tr a (.dct kvs))) (hl : (getI kvs k).isSome = true) : pPopD i fk ρ = some (.nx (ρ.set i (.tr a (.dct (dropI kvs k))))) := by
  unfold pPopD
  rw [inTr_of hi, hk]
  show (if (getI kvs k).isSome = true then _ else _) = _
  rw [if_pos hl]
theorem dget_of {i : Nat} {fk : PF} {ρ : SEnv} {a : Addr} {kvs : List (Int × D)} {d : D} {k : Int} (hk : fk (full ρ) = some (.int k)) (hi : ρ[i]? = some (.tr a (.dct kvs))) (hl : getI kvs k = some d) : vDGet i fk ρ = some (.sh d) := by
  unfold vDGet
  rw [inTr_of hi, hk]
  show (getI kvs k).bind _ = _
  rw [hl]
  rfl
theorem notIn_of {i : Nat} {fk : PF} {ρ : SEnv} {a : Addr} {kvs : List (Int × D)} {k : Int} (hk : fk (full ρ) = some (.int k)) (hi : ρ[i]? = some (.tr a (.dct kvs))) : bNotIn i fk ρ = some (!(getI kvs k).isSome) := by
  unfold bNotIn
  rw [inTr_of hi, hk]
  rfl
theorem retOb_of {vf : SEnv → Option Sl} {ρ : SEnv} {d : D} (h : vf ρ = some (.sh d)) : pRetOb vf ρ = some (.ro d ρ) := by
  unfold pRetOb
  rw [h]
  rfl
theorem callL_of {f : List D → Option (List D)} {r : SEnv → Option (List D)} {ρ : SEnv} {as ds : List D} (h : r ρ = some as) (hf : f as = some ds) : vCallL f r ρ = some (.sh (.list ds)) := by
  unfold vCallL
  rw [h]
  show (f as).bind _ = _
  rw [hf]
  rfl
theorem sq_ro {F F' : PSt} {ρ ρ' : SEnv} {d : D} (h : F ρ = some (.ro d ρ')) : pSq F F' ρ = some (.ro d ρ') := by
  unfold pSq
  rw [h]
  rfl
theorem runT_of {n m p : Nat} {F : PSt} {a : Addr} {c c' : Cn} {xs ys : List D} {d : D} {ρ : SEnv} (h1 : xs.length = p) (h2 : xs.length + (ys.length + 1) = n) (e : F (startT m a c xs ys) = some (.ro d ρ)) (hρ : ρ[p]? = some (.tr a c')) : runT n m p F a c xs ys = some (d, c') := by
  unfold runT
  rw [if_pos ⟨h1, h2⟩, e]
  show (ρ[p]?).bind _ = _
  rw [hρ]
  show (if a = a then some (d, c') else none) = _
  rw [if_pos rfl]
theorem setM_of {i j : Nat} {f : TF} {r : SEnv → Option (List D × List D)} {ρ : SEnv} {a : Addr} {c c' : Cn} {xs ys : List D} {d : D} (hi : ρ[i]? = some (.tr a c)) (hr : r ρ = some (xs, ys)) (hf : f a c xs ys = some (d, c')) : pSetM j (wCallT i f r) ρ = some (.nx ((ρ.set i (.tr a c')).set j (.sh d))) := by
  unfold pSetM wCallT
  rw [hi, hr]
  show ((f a c xs ys).bind _).bind _ = _
  rw [hf]
  rfl
theorem ifM_of {i : Nat} {f : TF} {r : SEnv → Option (List D × List D)} {F F' : PSt} {ρ : SEnv} {a : Addr} {c c' : Cn} {xs ys : List D} (hi : ρ[i]? = some (.tr a c)) (hr : r ρ = some (xs, ys)) (hf : f a c xs ys = some (.bool true, c')) : pIfM (wCallT i f r) F F' ρ = F' (ρ.set i (.tr a c')) := by
  unfold pIfM wCallT
  rw [hi, hr]
  show ((f a c xs ys).bind _).bind _ = _
  rw [hf]
  rfl
theorem ifB_tt {c : SEnv → Option Bool} {F F' : PSt} {ρ : SEnv} {o : Option Out} (h : c ρ = some true) (h' : F ρ = o) : pIfB c F F' ρ = o := by
  unfold pIfB
  rw [h]
  exact h'
theorem ifB_ff {c : SEnv → Option Bool} {F F' : PSt} {ρ : SEnv} {o : Option Out} (h : c ρ = some false) (h' : F' ρ = o) : pIfB c F F' ρ = o := by
  unfold pIfB
  rw [h]
  exact h'
theorem for_cnt {α : Type} {bs : D → SEnv → Option SEnv} {F : PSt} (enc : α → D) (R : Nat → SEnv → Prop) : ∀ (xs : List α) (n : Nat) (ρ : SEnv), (∀ m ρ x, x ∈ xs → m < n + xs.length → R m ρ → ∃ ρ1 ρ2, bs (enc x) ρ = some ρ1 ∧ F ρ1 = some (.nx ρ2) ∧ R (m + 1) ρ2) → R n ρ → ∃ ρ', forP bs F (xs.map enc) ρ = some (.nx ρ') ∧ R (n + xs.length) ρ'
  | [], n, ρ, _, r => ⟨ρ, rfl, r⟩
  | x :: xs, n, ρ, H, r => by
    obtain ⟨ρ1, ρ2, h1, h2, r2⟩ := H n ρ x List.mem_cons_self (by simp) r
    obtain ⟨ρ', h3, r3⟩ := for_cnt enc R xs (n + 1) ρ2 (fun m ρ y hy hm => H m ρ y (List.mem_cons_of_mem _ hy) (by rw [List.length_cons]; omega)) r2
    exact ⟨ρ', by rw [List.map_cons, forP_nx h1 h2]; exact h3, by rw [List.length_cons, show n + (xs.length + 1) = n + 1 + xs.length by omega]; exact r3⟩
def encM (P : List (Int × Int)) : List (Int × D) := P.map fun p => (p.1, .int p.2)
theorem encM_keys (P : List (Int × Int)) : (encM P).map (·.1) = P.map (·.1) := by
  unfold encM
  rw [List.map_map]
  rfl
theorem encM_len (P : List (Int × Int)) : (encM P).length = P.length := by unfold encM; rw [List.length_map]
theorem intsV_enc : ∀ P : List (Int × Int), intsV (encM P) = some P
  | [] => rfl
  | p :: P => by
    show (intsV (encM P)).bind _ = _
    rw [intsV_enc P]
    rfl
theorem getI_enc (k : Int) : ∀ P : List (Int × Int), getI (encM P) k = (getI P k).map .int
  | [] => rfl
  | p :: P => by
    show getI ((p.1, PyData.int p.2) :: encM P) k = _
    rw [getI_cons, getI_cons]
    by_cases h : p.1 = k
    · rw [if_pos h, if_pos h]; rfl
    · rw [if_neg h, if_neg h, getI_enc k P]
theorem any_enc (k : Int) (P : List (Int × Int)) : ((encM P).any fun kv => decide (kv.1 = k)) = P.any fun kv => decide (kv.1 = k) := by
  unfold encM
  rw [List.any_map]
  rfl
theorem putI_enc (k b : Int) (P : List (Int × Int)) : putI (encM P) k (.int b) = encM (putI P k b) := by
  unfold putI
  rw [any_enc]
  by_cases h : (P.any fun kv => decide (kv.1 = k)) = true
  · rw [if_pos h, if_pos h]
    unfold encM
    rw [List.map_map, List.map_map]
    congr 1
    funext p
    show (if p.1 = k then (p.1, PyData.int b) else (p.1, PyData.int p.2)) = _
    by_cases hk : p.1 = k <;> simp [hk]
  · rw [if_neg h, if_neg h]
    unfold encM
    rw [List.map_append]
    rfl
theorem dropI_enc (k : Int) (P : List (Int × Int)) : dropI (encM P) k = encM (dropI P k) := by
  unfold dropI encM
  rw [List.filter_map]
  rfl
theorem any_mem {α : Type} (k : Int) (P : List (Int × α)) : (P.any fun kv => decide (kv.1 = k)) = true ↔ k ∈ P.map (·.1) := by
  rw [List.any_eq_true, List.mem_map]
  constructor
  · rintro ⟨p, hp, e⟩
    exact ⟨p, hp, of_decide_eq_true e⟩
  · rintro ⟨p, hp, e⟩
    exact ⟨p, hp, decide_eq_true e⟩
theorem mem_putI {P : List (Int × Int)} {k b : Int} {q : Int × Int} : q ∈ putI P k b ↔ q = (k, b) ∨ (q ∈ P ∧ q.1 ≠ k) := by
  unfold putI
  by_cases h : (P.any fun kv => decide (kv.1 = k)) = true
  · rw [if_pos h, List.mem_map]
    constructor
    · rintro ⟨p, hp, e⟩
      by_cases hk : p.1 = k
      · rw [if_pos hk, hk] at e
        exact .inl e.symm
      · rw [if_neg hk] at e
        subst e
        exact .inr ⟨hp, hk⟩
    · rintro (rfl | ⟨hq, hk⟩)
      · obtain ⟨p, hp, e⟩ := List.mem_map.mp ((any_mem k P).mp h)
        exact ⟨p, hp, by rw [if_pos e, e]⟩
      · exact ⟨q, hq, by rw [if_neg hk]⟩
  · rw [if_neg h, List.mem_append, List.mem_singleton]
    have hn : k ∉ P.map (·.1) := fun z => h ((any_mem k P).mpr z)
    constructor
    · rintro (hq | hq)
      · exact .inr ⟨hq, fun z => hn (List.mem_map.mpr ⟨q, hq, z⟩)⟩
      · exact .inl hq
    · rintro (hq | hq)
      · exact .inr hq
      · exact .inl hq.1
theorem nodup_putI {P : List (Int × Int)} {k b : Int} (n : (P.map (·.1)).Nodup) : ((putI P k b).map (·.1)).Nodup := by
  unfold putI
  by_cases h : (P.any fun kv => decide (kv.1 = k)) = true
  · rw [if_pos h, List.map_map]
    have e : (fun x => x.1) ∘ (fun kv : Int × Int => if kv.1 = k then (kv.1, b) else kv) = fun kv => kv.1 := by
      funext p
      show (if p.1 = k then (p.1, b) else p).1 = p.1
      by_cases hk : p.1 = k <;> simp [hk]
    rw [e]
    exact n
  · rw [if_neg h, List.map_append]
    have hn : k ∉ P.map (·.1) := fun z => h ((any_mem k P).mpr z)
    refine List.nodup_append.mpr ⟨n, by simp, fun x hx y hy z => ?_⟩
    have : y = k := by simpa using hy
    rw [this] at z
    exact hn (by rw [← z]; exact hx)
theorem len_putI (P : List (Int × Int)) (k b : Int) : (putI P k b).length ≤ P.length + 1 := by
  unfold putI
  split
  · rw [List.length_map]; omega
  · rw [List.length_append]; simp
theorem mem_dropI {P : List (Int × Int)} {k : Int} {q : Int × Int} : q ∈ dropI P k ↔ q ∈ P ∧ q.1 ≠ k := by
  unfold dropI
  rw [List.mem_filter]
  simp
theorem nodup_dropI {P : List (Int × Int)} {k : Int} (n : (P.map (·.1)).Nodup) : ((dropI P k).map (·.1)).Nodup := List.Nodup.sublist (List.filter_sublist.map _) n
theorem len_dropI (P : List (Int × Int)) (k : Int) : (dropI P k).length ≤ P.length := List.length_filter_le _ _
theorem getI_some {P : List (Int × Int)} {k : Int} : (getI P k).isSome = decide (k ∈ P.map (·.1)) := by
  induction P with
  | nil => rfl
  | cons p P ih =>
    rw [getI_cons]
    by_cases h : p.1 = k
    · rw [if_pos h, decide_eq_true (by rw [← h]; exact List.mem_cons_self)]; rfl
    · rw [if_neg h, ih]
      exact decide_eq_decide.mpr ⟨fun z => List.mem_cons_of_mem _ z, fun z => (List.mem_cons.mp z).resolve_left fun w => h w.symm⟩
theorem getI_mem {P : List (Int × Int)} {k b : Int} (n : (P.map (·.1)).Nodup) (h : (k, b) ∈ P) : getI P k = some b := by
  induction P with
  | nil => cases h
  | cons p P ih =>
    rw [getI_cons]
    have n' := List.nodup_cons.mp n
    rcases List.mem_cons.mp h with rfl | h
    · rw [if_pos rfl]
    · rw [if_neg (fun z => n'.1 (List.mem_map.mpr ⟨(k, b), h, z.symm⟩))]
      exact ih n'.2 h
end L2
set_option maxHeartbeats 4000000
namespace LL
open PySem L2
theorem keys_set_some {y : Pr} : ∀ (s : List Thing) (i : Nat) (x : Pr), s.getD i none = some x → y.1 = x.1 → keysOf (s.set i (some y)) = keysOf s
  | [], i, x, h, _ => by simp at h
  | none :: s, 0, x, h, _ => by cases h
  | some z :: s, 0, x, h, e => by
    have hz : z = x := Option.some.inj h
    show y.1 :: keysOf s = z.1 :: keysOf s
    rw [e, hz]
  | none :: s, i + 1, x, h, e => keys_set_some s i x h e
  | some z :: s, i + 1, x, h, e => congrArg (z.1 :: ·) (keys_set_some s i x h e)
theorem keys_clear : ∀ (s : List Thing) (i : Nat), (keysOf (s.set i none)).Sublist (keysOf s)
  | [], i => .slnil
  | none :: s, 0 => List.Sublist.refl _
  | some z :: s, 0 => List.sublist_cons_self _ _
  | none :: s, i + 1 => keys_clear s i
  | some z :: s, i + 1 => (keys_clear s i).cons₂ z.1
def pc (s : List Thing) (k a b : Nat) : Nat := (((posT k s).map (·.1)).filter fun p => decide (a ≤ p) && decide (p < b)).length
theorem rise_at : ∀ {ts : List Thing}, Rises ts → ∀ {i j : Nat} {x y : Pr}, i < j → ts.getD i none = some x → ts.getD j none = some y → x.1 < y.1
  | [], _, i, j, x, y, _, h, _ => by simp at h
  | none :: r, hR, 0, j, x, y, _, h, _ => by cases h
  | none :: r, hR, i + 1, 0, x, y, h, _, _ => by omega
  | none :: r, hR, i + 1, j + 1, x, y, h, h1, h2 => rise_at (ts := r) hR (Nat.lt_of_succ_lt_succ h) h1 h2
  | some z :: r, hR, i, 0, x, y, h, _, _ => by omega
  | some z :: r, hR, 0, j + 1, x, y, _, h1, h2 => by
    have hz : z = x := Option.some.inj h1
    have hp := List.pairwise_cons.mp (show (z.1 :: keysOf r).Pairwise (· < ·) from hR)
    rw [← hz]
    refine hp.1 y.1 ?_
    have h2' : r.getD j none = some y := h2
    rw [List.getD_eq_getElem?_getD] at h2'
    cases hg : r[j]? with
    | none => rw [hg] at h2'; cases h2'
    | some u =>
      rw [hg] at h2'
      have hu : u = some y := h2'
      exact List.mem_filterMap.mpr ⟨u, List.mem_of_getElem? hg, by rw [hu]; rfl⟩
  | some z :: r, hR, i + 1, j + 1, x, y, h, h1, h2 => rise_at (ts := r) (List.pairwise_cons.mp (show (z.1 :: keysOf r).Pairwise (· < ·) from hR)).2 (Nat.lt_of_succ_lt_succ h) h1 h2
theorem seat_max (ts : List Thing) (k : Int) : ∀ (n i : Nat) (x : Pr), i < n → ts.getD i none = some x → x.1 < k → i ≤ seatN ts k n
  | 0, i, x, h, _, _ => by omega
  | n + 1, i, x, h, h1, h2 => by
    show i ≤ if lessAt ts k n = true then n else seatN ts k n
    by_cases hc : lessAt ts k n = true
    · rw [if_pos hc]; omega
    · rw [if_neg hc]
      rcases Nat.lt_or_ge i n with q | q
      · exact seat_max ts k n i x q h1 h2
      · exfalso
        have : i = n := by omega
        subst this
        unfold lessAt at hc
        rw [h1] at hc
        simp at hc
        omega
theorem seat_less (ts : List Thing) (k : Int) : ∀ n, 0 < seatN ts k n → ∃ y, ts.getD (seatN ts k n) none = some y ∧ y.1 < k
  | 0, h => by cases h
  | n + 1, h => by
    have e : seatN ts k (n + 1) = if lessAt ts k n = true then n else seatN ts k n := rfl
    by_cases hc : lessAt ts k n = true
    · rw [e, if_pos hc]
      unfold lessAt at hc
      cases hg : ts.getD n none with
      | none => rw [hg] at hc; cases hc
      | some y => rw [hg] at hc; exact ⟨y, rfl, of_decide_eq_true hc⟩
    · rw [e, if_neg hc] at h ⊢
      exact seat_less ts k n h
theorem things_get {s : List Thing} {x : Pr} (h : x ∈ things s) : ∃ i, i < s.length ∧ s.getD i none = some x := by
  obtain ⟨u, hu, e⟩ := List.mem_filterMap.mp h
  obtain ⟨i, hi, hg⟩ := List.mem_iff_getElem.mp hu
  refine ⟨i, hi, ?_⟩
  rw [List.getD_eq_getElem?_getD, List.getElem?_eq_getElem hi, hg]
  exact e
theorem rise_put {X Y Y' Z : List Thing} {k b : Int} {s : Nat} (hR : Rises (X ++ Y ++ Z)) (hk : k ∉ keysOf (X ++ Y ++ Z)) (hs : seatN (X ++ Y ++ Z) k (X ++ Y ++ Z).length = s) (hs1 : X.length ≤ s) (hs2 : s < X.length + Y.length)
    (hth : things Y' = (things Y).take (lessN Y k) ++ (k, b) :: (things Y).drop (lessN Y k)) : Rises (X ++ Y' ++ Z) := by
  have hRP : RiseP (things X ++ things Y ++ things Z) := by
    have := (rises_things _).mp hR
    rw [things_app, things_app] at this
    exact this
  have hRY : RiseP (things Y) := by
    unfold RiseP at hRP ⊢
    rw [List.map_append, List.map_append] at hRP
    exact (List.pairwise_append.mp (List.pairwise_append.mp hRP).1).2.1
  have hkT : k ∉ (things X ++ things Y ++ things Z).map (·.1) := by
    rw [keysOf_things, things_app, things_app] at hk
    exact hk
  have hkY : k ∉ (things Y).map (·.1) := fun q => hkT (by rw [List.map_append, List.map_append]; exact List.mem_append_left _ (List.mem_append_right _ q))
  obtain ⟨p1, p2, p3⟩ := less_parts (k := k) (things Y) hRY hkY
  have gX : ∀ x ∈ things X, x.1 < k := by
    intro x hx
    obtain ⟨i, hi, hg⟩ := things_get hx
    have hg' : (X ++ Y ++ Z).getD i none = some x := by
      rw [List.getD_eq_getElem?_getD, List.append_assoc, List.getElem?_append_left hi, ← List.getD_eq_getElem?_getD]
      exact hg
    obtain ⟨y, hy, hyk⟩ := seat_less (X ++ Y ++ Z) k (X ++ Y ++ Z).length (by rw [hs]; omega)
    rw [hs] at hy
    have := rise_at hR (i := i) (j := s) (by omega) hg' hy
    omega
  have gZ : ∀ x ∈ things Z, k < x.1 := by
    intro x hx
    obtain ⟨i, hi, hg⟩ := things_get hx
    have hg' : (X ++ Y ++ Z).getD (X.length + Y.length + i) none = some x := by
      rw [List.getD_eq_getElem?_getD, List.getElem?_append_right (by rw [List.length_append]; omega), List.length_append, show X.length + Y.length + i - (X.length + Y.length) = i by omega, ← List.getD_eq_getElem?_getD]
      exact hg
    have hne : x.1 ≠ k := fun e => hkT (by rw [List.map_append]; exact List.mem_append_right _ (by rw [← e]; exact List.mem_map_of_mem hx))
    rcases Int.lt_or_le x.1 k with q | q
    · exfalso
      have := seat_max (X ++ Y ++ Z) k (X ++ Y ++ Z).length (X.length + Y.length + i) x (by rw [List.length_append, List.length_append]; omega) hg' q
      rw [hs] at this
      omega
    · omega
  rw [rises_things, things_app, things_app, hth]
  unfold RiseP at hRP ⊢
  unfold lessN
  generalize ((things Y).filter fun x => decide (x.1 < k)).length = j at *
  rw [p1] at hRP
  generalize (things Y).take j = T1 at *
  generalize (things Y).drop j = T2 at *
  generalize things X = TX at *
  generalize things Z = TZ at *
  simp only [List.map_append, List.map_cons, List.pairwise_append, List.pairwise_cons, List.mem_append, List.mem_cons, List.mem_map] at hRP ⊢
  obtain ⟨⟨a1, ⟨a2, a3, a4⟩, a5⟩, a6, a7⟩ := hRP
  refine ⟨⟨a1, ⟨a2, ⟨?_, a3⟩, ?_⟩, ?_⟩, a6, ?_⟩
  · rintro _ ⟨x, hx, rfl⟩
    exact p3 x hx
  · rintro a ⟨x, hx, rfl⟩ c hc
    rcases hc with rfl | ⟨y, hy, rfl⟩
    · exact p2 x hx
    · exact a4 _ ⟨x, hx, rfl⟩ _ ⟨y, hy, rfl⟩
  · rintro a ⟨x, hx, rfl⟩ c hc
    rcases hc with ⟨y, hy, rfl⟩ | rfl | ⟨y, hy, rfl⟩
    · exact a5 _ ⟨x, hx, rfl⟩ _ (.inl ⟨y, hy, rfl⟩)
    · exact gX x hx
    · exact a5 _ ⟨x, hx, rfl⟩ _ (.inr ⟨y, hy, rfl⟩)
  · rintro a ha c ⟨y, hy, rfl⟩
    rcases ha with ⟨x, hx, rfl⟩ | ⟨x, hx, rfl⟩ | rfl | ⟨x, hx, rfl⟩
    · exact a7 _ (.inl ⟨x, hx, rfl⟩) _ ⟨y, hy, rfl⟩
    · exact a7 _ (.inr (.inl ⟨x, hx, rfl⟩)) _ ⟨y, hy, rfl⟩
    · exact gZ y hy
    · exact a7 _ (.inr (.inr ⟨x, hx, rfl⟩)) _ ⟨y, hy, rfl⟩
end LL
set_option maxHeartbeats 4000000
namespace L2
open PySem PySem.Spec PyProof.Rows PySem.W
abbrev T1 := Ends → (Addr → Hp → Prop) → St → Hp → Prop
structure JT1 (X : Cx) (K : PySem.W.Frag) (mg : Str → Option Value) (c : Stmt) (t : T1) (F : PSt) (G : SEnv → Option Str) : Prop where
  wp : ∀ (pins : List (Addr × Obj)) (s : Shared) (σ : St) (H : Hp) (D : Ends) (R : Addr → Hp → Prop), Inv X pins σ H s → t D R σ H → wpAny (model X.prog X.w) X.A (exec c X.env) (SP X pins D) (XE X pins σ R) s
  pu : ∀ (H0 : Hp) (O0 : List Addr) (Gh : Hp) (σ : St) (H : Hp) (ρ : SEnv) (o : Out) (E : Ends) (R : Addr → Hp → Prop), OkO O0 H0 → StR K H0 O0 Gh σ H ρ → F ρ = some o → Post K H0 O0 Gh E o → t E R σ H
  px : ∀ (H0 : Hp) (O0 : List Addr) (Gh : Hp) (σ : St) (H : Hp) (ρ : SEnv) (x : Str) (E : Ends) (R : Addr → Hp → Prop), OkO O0 H0 → StR K H0 O0 Gh σ H ρ → G ρ = some x → (∀ H', Same H H' → ∀ C, mg x = some (.ref C) → R C H') → t E R σ H
structure KC2 (K : PySem.W.Frag) (mg : Str → Option Value) (x1 x2 : Str) (C1 C2 : Addr) (ds : List Addr) : Prop where
  m1 : mg x1 = some (.ref C1)
  m2 : mg x2 = some (.ref C2)
  a1 : kitOne K (.ref C1) (.ref C1) = some true
  a2 : kitOne K (.ref C1) (.ref C2) = some false
  a3 : kitAny K (.ref C1) (ds.map Value.ref) = some false
  a4 : kitOne K (.ref C1) (.type "ValueError") = some true
  b1 : kitOne K (.ref C2) (.ref C1) = some false
  b2 : kitOne K (.ref C2) (.ref C2) = some true
  b3 : kitAny K (.ref C2) (ds.map Value.ref) = some false
  b4 : kitOne K (.ref C2) (.type "ValueError") = some true
  dl : ds.length ≤ 1000
structure MCalleeX (P : Program) (w : World) (K : PySem.W.Frag) (mg : Str → Option Value) (base : Heap) (k : Nat) (C : Addr) (m : Str) (ps : List Str) (sp : Sp) : Prop where
  ex : ∃ (f : Addr) (fd : FuncData), FnOk P w K mg base (CXE P w) k f fd ps sp ∧ Meth K C m f ∧ Binds K fd ps []
section
variable {P : Program} {w : World} {K : PySem.W.Frag} {mg : Str → Option Value} {base : Heap} {C : Addr}
end
section
variable {X : Cx} {K : PySem.W.Frag} {C : Addr} {k : Nat} {x : Str} {ps : List Str} {sp spx : Sp} {e : Expr} {es : List Expr} {t : TA} {p pos epos : Pos}
noncomputable def pMakeS (f : MF) (r : PAs) : PSt := fun ρ => (pMake f r (masked ρ)).bind fun _ => some (.nx ρ)
end
end L2
set_option maxHeartbeats 4000000
namespace L2
open PySem PySem.Spec PyProof.Rows
section
variable {X : Cx} {K : PySem.W.Frag}
end
end L2
set_option maxHeartbeats 4000000
namespace L2
open PySem PySem.Spec PyProof.Rows PySem.W
section
variable {M : Model} {A : Around} {Ex : Value → Shared → Prop} {s : Shared} {B : Heap} {l outer : List Env} {env : Env} {L e : Addr} {cls a0 fl : Value}
end
section
variable {P : Program} {w : World} {K : PySem.W.Frag} {mg : Str → Option Value} {base : Heap} {N : List Str} {qual : Str} {scope0 : Scope} {f : Addr} {cd : Value} {A : Around} {outer : List Env} {s : Shared} {H : Hp} {E : XK}
  {N' : List Str} {scope : Scope} {cl : List (Str × Addr)} {fp : List Addr} {pins : List (Addr × Obj)} {s3 : Shared} {H3 : Hp} {σ : St}
end
end L2
set_option maxHeartbeats 4000000
namespace L2
open PySem PySem.Spec PyProof.Rows
section
variable {X : Cx} {tg elt iter : Expr} {ifs : List Expr} {scope : Scope} {own : List Str} {fv : List (Nat × Str)} {wi : TI} {g : TG} {tc : TT} {te : TE}
end
section
variable {K : PySem.W.Frag} {R : Str → Hp → Prop} {wi : TI} {g : TG} {tc : TT} {te : TE} {fi : PAs} {bd : D → PEnv → Option PEnv} {pt : PB} {fe : PF} {ge : PXe}
end
def PuXA (K : PySem.W.Frag) (R : Str → Hp → Prop) (t : TA) (g : PXe) : Prop := ∀ (O : List Addr) (σ : St) (H : Hp) (ρ : PEnv) (C : Str) (Q : List V → Hp → Prop), OkO O H → EnvR K (hid O H) σ ρ → g ρ = some C → (∀ H', Same H H' → R C H') → t σ H Q
structure JXA (X : Cx) (K : PySem.W.Frag) (R : Str → Hp → Prop) (es : List Expr) (t : TA) (r : PAs) (g : PXe) : Prop where
  pe : PA X es t
  pu : PuA K t r
  px : PuXA K R t g
section
variable {X : Cx} {K : PySem.W.Frag} {R : Str → Hp → Prop} {e a b c : Expr} {es : List Expr} {te ta tb : TE} {t : TA} {f fa fb : PF} {r : PAs} {g ga gb : PXe} {tc : TT} {pc : PB} {pos : Pos}
end
section
variable {P : Program} {w : World} {K : PySem.W.Frag} {mg : Str → Option Value} {base : Heap} {N : List Str} {qual : Str} {scope0 : Scope} {f : Addr} {cd : Value} {A : Around} {outer : List Env} {s : Shared} {H : Hp} {E : XK}
  {k n : Nat} {x : Str} {ps : List Str} {tg e iter : Expr} {es : List Expr} {t : TA} {r : PAs} {p cpos pos : Pos} {g : List D → Option Str} {fl : List D → Option D} {ifs : List Expr} {scope : Scope} {wi : TI} {gt : TG} {tc : TT} {fi : PAs} {bd : D → PEnv → Option PEnv} {pt : PB}
end
end L2
set_option maxHeartbeats 4000000
namespace L2
open PySem PySem.Spec PyProof.Rows PySem.W
section
variable {P : Program} {w : World} {K : PySem.W.Frag} {mg : Str → Option Value} {base : Heap} {X : Cx} {R : Str → Hp → Prop}
end
structure MDefD (K : PySem.W.Frag) (C : Addr) (m qual : Str) (st : Stmt) (ps : List Str) (ds : List Value) : Prop where
  ex : ∃ (f : Addr) (fd : FuncData), FunG K m qual st f fd ∧ Meth K C m f ∧ Binds K fd ps ds
structure MCalleeXD (P : Program) (w : World) (K : PySem.W.Frag) (mg : Str → Option Value) (base : Heap) (k : Nat) (C : Addr) (m : Str) (ps : List Str) (ds : List Value) (sp : Sp) : Prop where
  ex : ∃ (f : Addr) (fd : FuncData), FnOk P w K mg base (CXE P w) k f fd ps sp ∧ Meth K C m f ∧ Binds K fd ps ds
section
variable {P : Program} {w : World} {K : PySem.W.Frag} {mg : Str → Option Value} {base : Heap} {C : Addr} {ds : List Value}
end
section
variable {X : Cx} {K : PySem.W.Frag} {C : Addr} {k : Nat} {m : Str} {ps : List Str} {spx : Sp} {o e : Expr} {es : List Expr} {to : TE} {t : TA} {apos pos epos : Pos} {ds : List Value} {dvs : List V}
end
section
variable {X : Cx} {K : PySem.W.Frag} {C : Addr} {m : Str} {ps : List Str} {o e : Expr} {es : List Expr} {to : TE} {t : TA} {apos pos : Pos} {R : Str → Hp → Prop} {fo : PF} {r : PAs} {g : PXe}
end
end L2
set_option maxHeartbeats 4000000
namespace L2
open PySem PySem.Spec PyProof.Rows PySem.W
structure FnAt (K : PySem.W.Frag) (x : Str) (st : Stmt) : Prop where
  ex : ∃ (f : Addr) (oc : Value) (od an : Option Addr) (sl : Array (Option Value)) (kV dc pm cd ct : Value), PySem.W.nsIn K mainGlobals x = some (some (.ref f)) ∧
    K.lookup f = some ⟨oc, od, .func (PySem.W.fnOf x x (defArgs st) (defBody st) (defScope st) .none kV dc pm an cd ct), sl⟩ ∧ PySem.W.codeIn K cd x = true ∧ PySem.W.keepIn K (.ref f) = true
structure MtAt (K : PySem.W.Frag) (C : Addr) (x q : Str) (st : Stmt) : Prop where
  ex : ∃ (f : Addr) (oc : Value) (od an : Option Addr) (sl : Array (Option Value)) (kV dc pm cd ct : Value), PySem.W.findIn K (.ref C) x = some (some (.ref f)) ∧ PySem.W.isFn K (.ref f) = true ∧
    K.lookup f = some ⟨oc, od, .func (PySem.W.fnOf x q (defArgs st) (defBody st) (defScope st) .none kV dc pm an cd ct), sl⟩ ∧ PySem.W.codeIn K cd q = true ∧ PySem.W.keepIn K (.ref f) = true
structure MtDf (K : PySem.W.Frag) (C : Addr) (x q : Str) (st : Stmt) : Prop where
  ex : ∃ (f T : Addr) (oc oT : Value) (od an dT : Option Addr) (sl sT : Array (Option Value)) (nT : Nat) (kV dc pm cd ct : Value), PySem.W.findIn K (.ref C) x = some (some (.ref f)) ∧ PySem.W.isFn K (.ref f) = true ∧
    K.lookup f = some ⟨oc, od, .func (PySem.W.fnOf x q (defArgs st) (defBody st) (defScope st) (.ref T) kV dc pm an cd ct), sl⟩ ∧ PySem.W.codeIn K cd q = true ∧ PySem.W.keepIn K (.ref f) = true ∧ K.lookup T = some ⟨oT, dT, .seq #[.none] nT, sT⟩
section
variable {K : PySem.W.Frag} {C f T : Addr} {x q : Str} {st : Stmt} {oc oT kV dc pm cd ct : Value} {od an dT : Option Addr} {sl sT : Array (Option Value)} {nT : Nat}
theorem fnAt (a : PySem.W.nsIn K mainGlobals x = some (some (.ref f))) (l : K.lookup f = some ⟨oc, od, .func (PySem.W.fnOf x x (defArgs st) (defBody st) (defScope st) .none kV dc pm an cd ct), sl⟩) (c : PySem.W.codeIn K cd x = true) (k : PySem.W.keepIn K (.ref f) = true) : FnAt K x st :=
  ⟨f, oc, od, an, sl, kV, dc, pm, cd, ct, a, l, c, k⟩
end
section
variable {K : PySem.W.Frag} {C : Addr} {x q : Str} {st : Stmt} {mg : Str → Option Value} {h : Heap}
theorem FnAt.d (A : FnAt K x st) (X : K.In h) (G : h.Ns mainGlobals mg) {ps : List Str}
    (hb : ∀ (kV doc pm : Value) (an : Option Addr) (cdv ct : Value) (us : List Value), us.length = ps.length → bindArgs (PySem.W.fnOf x x (defArgs st) (defBody st) (defScope st) .none kV doc pm an cdv ct) ⟨us, []⟩ = pure (ps.zip us)) : Def K mg x st ps := by
  obtain ⟨f, oc, od, an, sl, kV, dc, pm, cd, ct, a, l, c, k⟩ := A.ex
  exact def_mk X G hb a l c k
end
end L2
set_option maxHeartbeats 4000000
namespace S16
open PySem L2 LKb LL
def b__law_deed : PSt := (pSq (pSet 6 (vSortK 3))
    (pSq (pSet 7 (vS (pOp dMod (pVar 4) (pCon (.int 10)))))
    (pSq (pIfS (pAndT (pTest (pOp dLt (pVar 7) (pCon (.int 3)))) (pTest (pOp dNe (pVar 6) (pOfL (pLst pNil)))))
      (pSq (pSet 8 (vS (pOp dIx (pVar 6) (pOp dMod (pOp dDiv (pVar 4) (pCon (.int 10))) (pCall gLen (pCons (pVar 6) pNil))))))
      (pSq (pIfS (pTest (pOp dEq (pVar 7) (pCon (.int 0))))
        (pSq (pSetD 3 (pVar 8) (vS (pOp dMod (pOp dDiv (pVar 4) (pCon (.int 10))) (pOp dPow (pCon (.int 10)) (pCon (.int 50))))))
        (pRetOb (vCallL m_put_writes (sCons (vS (pVar 0)) (sCons (vS (pVar 1)) (sCons (vS (pVar 2)) (sCons (vS (pVar 8)) (sCons (vDGet 3 (pVar 8)) sNil)))))))) pNx)
      (pSq (pPopD 3 (pVar 8))
      (pRetOb (vSL (pCallL m_take_writes (pCons (pVar 2) (pCons (pVar 8) pNil)))))))) pNx)
    (pSq (pSet 8 (vS (pCall m__law_key (pCons (pVar 6) (pCons (pOp dDiv (pVar 4) (pCon (.int 10))) (pCons (pVar 5) pNil))))))
    (pSq (pIfB (bAnd (bNotIn 3 (pVar 8)) (bT (pTest (pOp dGe (pCall gLen (pCons (pVar 6) pNil)) (pOp dMul (pCall m__law_two (pCons (pVar 1) pNil)) (pOp dSub (pOp dIx (pVar 0) (pCon (.int 1))) (pOp dMul (pVar 1) (pOp dIx (pVar 0) (pCon (.int 2))))))))))
      (pRetOb (vSL (pLst pNil))) pNx)
    (pSq (pSetD 3 (pVar 8) (vS (pOp dIx (pOfL (pLst (pCons (pOp dSub (pOp dMod (pOp dDiv (pVar 4) (pCon (.int 11))) (pOp dPow (pCon (.int 10)) (pCon (.int 50)))) (pCon (.int 3))) (pCons (pCon (.int 0)) (pCons (pCon (.int 1)) (pCons (pUn dNeg (pCon (.int 1))) pNil)))))) (pOp dMod (pOp dDiv (pVar 4) (pCon (.int 17))) (pCon (.int 4))))))
    (pRetOb (vCallL m_put_writes (sCons (vS (pVar 0)) (sCons (vS (pVar 1)) (sCons (vS (pVar 2)) (sCons (vS (pVar 8)) (sCons (vDGet 3 (pVar 8)) sNil)))))))))))))
def m__law_deed : TF := runT 6 9 3 b__law_deed
def b__law_free : PSt := (pSq (pIfS (pTest (pOp dEq (pVar 2) (pTup pNil)))
      (pRet (pOr (pVar 3) (pOp dEq (pOp gCount (pVar 0) (pOp dIx (pVar 0) (pVar 1))) (pCon (.int 2))))) pNx)
    (pRet (pOr (pOp dEq (pOp dIx (pVar 0) (pVar 1)) (pTup pNil)) (pOp dEq (pOp dIx (pOp dIx (pVar 0) (pVar 1)) (pCon (.int 0))) (pOp dIx (pVar 2) (pCon (.int 0)))))))
def m__law_free : List D → Option D := runF 4 4 b__law_free
def l__law_done_1 : PSt := (pSq (pAsg (bs2 5 6) (vS (pOp dIx (pVar 1) (pVar 4))))
      (pSq (pIfS (pNotT (pTest (pCall m__law_free (pCons (pVar 0) (pCons (pVar 5) (pCons (pVar 6) (pCons (pOp dEq (pCall gLen (pCons (pVar 1) pNil)) (pCon (.int 1))) pNil)))))))
        (pRetOb (vS (pCon (.bool false)))) pNx)
      (pSq (pSetT 0 (pVar 5) (vS (pVar 6)))
      (pIfS (pAndT (pTest (pOp dLt (pVar 4) (pOp dSub (pCall gLen (pCons (pVar 1) pNil)) (pCon (.int 1))))) (pOrT (pTest (pOp dNe (pOfL (pCallL m__law_rows (pCons (pVar 0) pNil))) (pVar 2))) (pNotT (pTest (pCall m__law_sound (pCons (pVar 0) pNil))))))
        (pRetOb (vS (pCon (.bool false)))) pNx))))
def b__law_done : PSt := (pSq (pFor (pCallL gRange1 (pCons (pCall gLen (pCons (pVar 1) pNil)) pNil)) (bs1 4) l__law_done_1)
    (pSq (pSet 7 (vLS (pComp (pItL (pVar 0)) (bd1 0) (pTest (pOp dNe (pVar 0) (pTup pNil))) (pVar 0) 1 [])))
    (pRetOb (vS (pOp dEq (pVar 7) (pVar 3))))))
def m__law_done : TF := runT 4 8 0 b__law_done
noncomputable def l_law_1 : PSt := (pSq (pSet 7 (vSortI 5))
      (pSq (pSetM 8 (wCallT 5 m__law_deed (ioCons (vS (pVar 1)) (ioCons (vS (pVar 2)) (ioCons (vLS (pCallL gList (pCons (pVar 4) pNil))) (ioHere (sCons (vS (pVar 6)) (sCons (vS (pVar 3)) sNil))))))))
      (pIfM (wCallT 4 m__law_done (ioHere (sCons (vS (pVar 8)) (sCons (vS (pVar 7)) (sCons (vSortI 5) sNil)))))
        (pRet (pCon (.bool false))) pNx)))
noncomputable def b_law : PSt := (pSq (pSet 1 (vS (pCall m__law_small (pCons (pCall m__law_cell (pCons (pVar 0) (pCons (pCon (.int 0)) pNil))) pNil))))
    (pSq (pSet 2 (vS (pOp dMod (pCall m__law_cell (pCons (pVar 0) (pCons (pCon (.int 1)) pNil))) (pOp dAdd (pCall gMin (pCons (pCon (.int 2)) (pCons (pOp dIx (pVar 1) (pCon (.int 0))) pNil))) (pCon (.int 1))))))
    (pSq (pSet 3 (vS (pOp dEq (pOp dMod (pOp dDiv (pCall m__law_cell (pCons (pVar 0) (pCons (pCon (.int 1)) pNil))) (pCon (.int 3))) (pCon (.int 2))) (pCon (.int 1)))))
    (pSq (pSet 4 (vL (pComp (pCallL gRange1 (pCons (pOp dMul (pCall m__law_two (pCons (pVar 2) pNil)) (pOp dIx (pVar 1) (pCon (.int 1)))) pNil)) (bd1 0) pTrue (pTup pNil) 1 [])))
    (pOwn 4
    (pNewD 5
    (pSq (pFor (pItL (pOfL (pComp (pItL (pOfL (pSl (pVar 0) (pPart (pCon (.int 2))) (pPart (pCon (.int 47)))))) (bd1 0) pTrue (pCall m__law_spread (pCons (pVar 0) pNil)) 1 []))) (bs1 6) l_law_1)
    (pRet (pCon (.bool true))))))))))
noncomputable def m_law : List D → Option D := runF 1 9 b_law
end S16
set_option maxHeartbeats 4000000
namespace S16
open PySem L2 LKb LL
def top (i : Nat) : Stmt := PySem.Challenge.pw_gapshelf_k16_whole_the_last_write_decide.main.body.getD i (.Pass ⟨0, 0, 0, 0⟩)
abbrev s_twofold : Stmt := top 1
abbrev s_places_of : Stmt := top 2
abbrev s_stretch_of : Stmt := top 3
abbrev s_cap_of : Stmt := top 4
abbrev s_held : Stmt := top 10
abbrev s_done : Stmt := top 11
abbrev s_targets : Stmt := top 13
abbrev s_moves_of : Stmt := top 14
abbrev s_writes_of : Stmt := top 15
abbrev s_place_of : Stmt := top 17
abbrev s_seat_of : Stmt := top 18
abbrev s_height_for : Stmt := top 19
abbrev s_put_writes : Stmt := top 20
abbrev s_evening_writes : Stmt := top 21
abbrev s_take_writes : Stmt := top 22
abbrev s__law_cell : Stmt := top 24
abbrev s__law_spread : Stmt := top 25
abbrev s__law_small : Stmt := top 27
abbrev s__law_two : Stmt := top 28
abbrev s__law_rows : Stmt := top 29
abbrev s__law_sound : Stmt := top 30
abbrev s__law_key : Stmt := top 31
abbrev s__law_deed : Stmt := top 32
abbrev s__law_free : Stmt := top 33
abbrev s__law_done : Stmt := top 34
abbrev s_law : Stmt := top 35
structure Txt (K : PySem.W.Frag) (mg : Str → Option Value) : Prop where
  n_enumerate : mg "enumerate" = none
  n_int : mg "int" = none
  n_len : mg "len" = none
  n_list : mg "list" = none
  n_max : mg "max" = none
  n_min : mg "min" = none
  n_range : mg "range" = none
  n_reversed : mg "reversed" = none
  n_sorted : mg "sorted" = none
  n_zip : mg "zip" = none
section
variable {P : Program} {w : World} {K : PySem.W.Frag} {mg : Str → Option Value} {base : Heap}
theorem hfn_twofold : m_twofold = runF 1 3 b_twofold := by rfl
theorem sc_twofold : FnScope ["height", "power", "doubling"] ["height"] (defScope s_twofold) := ⟨rfl, rfl, rfl, by decide +kernel, rfl, by decide +kernel, by decide +kernel⟩
theorem ok_twofold (D_twofold : Def K mg "twofold" s_twofold ["height"]) (T : Txt K mg)  : Callee P w K mg base 1 "twofold" ["height"] (spF K 1 m_twofold) := by
  refine Def.pureF (hfn_twofold) D_twofold sc_twofold rfl rfl fun f cdv A outer s H E hr => ?_
  have hu := hu64 hr
  exact ⟨_, (jss_cons (js_setS (i := 1) sc_twofold.nd rfl (Or.inl rfl) je_int)
    (jss_cons (js_for PassesOwn.never rfl (ji_range1 rfl T.n_range (ja_cons (je_var 0) ja_nil)) (jgs_name (i := 2) sc_twofold.nd rfl (Or.inl rfl))
      (jss_one (js_setS (i := 1) sc_twofold.nd rfl (Or.inl rfl) (je_op jo_mul (je_var 1) je_int))))
    (jss_one (js_ret (je_var 1)))))⟩
theorem hfn_places_of : m_places_of = runF 2 3 b_places_of := by rfl
theorem sc_places_of : FnScope ["bounds", "height", "width"] ["bounds", "height"] (defScope s_places_of) := ⟨rfl, rfl, rfl, by decide +kernel, rfl, by decide +kernel, by decide +kernel⟩
theorem ok_places_of (D_places_of : Def K mg "places_of" s_places_of ["bounds", "height"]) (T : Txt K mg) (C_twofold : Callee P w K mg base 1 "twofold" ["height"] (spF K 1 m_twofold)) : Callee P w K mg base 2 "places_of" ["bounds", "height"] (spF K 2 m_places_of) := by
  refine Def.pureF (hfn_places_of) D_places_of sc_places_of rfl rfl fun f cdv A outer s H E hr => ?_
  have hu := hu64 hr
  exact ⟨_, (jss_cons (js_setS (i := 2) sc_places_of.nd rfl (Or.inl rfl) (je_ix rfl (je_var 0) je_int (fun _ _ => rfl)))
    (jss_one (js_ret (je_op jo_mul (je_callC C_twofold (takesF _ _ _) hr rfl (ja_cons (je_var 1) ja_nil)) (je_var 2)))))⟩
theorem hfn_stretch_of : m_stretch_of = runF 3 5 b_stretch_of := by rfl
theorem sc_stretch_of : FnScope ["bounds", "height", "place", "size", "first"] ["bounds", "height", "place"] (defScope s_stretch_of) := ⟨rfl, rfl, rfl, by decide +kernel, rfl, by decide +kernel, by decide +kernel⟩
theorem ok_stretch_of (D_stretch_of : Def K mg "stretch_of" s_stretch_of ["bounds", "height", "place"]) (T : Txt K mg) (C_places_of : Callee P w K mg base 2 "places_of" ["bounds", "height"] (spF K 2 m_places_of)) : Callee P w K mg base 3 "stretch_of" ["bounds", "height", "place"] (spF K 3 m_stretch_of) := by
  refine Def.pureF (hfn_stretch_of) D_stretch_of sc_stretch_of rfl rfl fun f cdv A outer s H E hr => ?_
  have hu := hu64 hr
  exact ⟨_, (jss_cons (js_setS (i := 3) sc_stretch_of.nd rfl (Or.inl rfl) (je_callC C_places_of (takesF _ _ _) hr rfl (ja_cons (je_var 0) (ja_cons (je_var 1) ja_nil))))
    (jss_cons (js_setS (i := 4) sc_stretch_of.nd rfl (Or.inl rfl) (je_op jo_mul (je_op jo_div (je_var 2) (je_var 3)) (je_var 3)))
    (jss_one (js_ret (je_tup (ja_cons (je_var 4) (ja_cons (je_op jo_add (je_var 4) (je_var 3)) ja_nil)))))))⟩
theorem hfn_cap_of : m_cap_of = runF 2 4 b_cap_of := by rfl
theorem sc_cap_of : FnScope ["bounds", "height", "width", "step"] ["bounds", "height"] (defScope s_cap_of) := ⟨rfl, rfl, rfl, by decide +kernel, rfl, by decide +kernel, by decide +kernel⟩
theorem ok_cap_of (D_cap_of : Def K mg "cap_of" s_cap_of ["bounds", "height"]) (T : Txt K mg) (C_twofold : Callee P w K mg base 1 "twofold" ["height"] (spF K 1 m_twofold)) : Callee P w K mg base 2 "cap_of" ["bounds", "height"] (spF K 2 m_cap_of) := by
  refine Def.pureF (hfn_cap_of) D_cap_of sc_cap_of rfl rfl fun f cdv A outer s H E hr => ?_
  have hu := hu64 hr
  exact ⟨_, (jss_cons (js_setS (i := 2) sc_cap_of.nd rfl (Or.inl rfl) (je_ix rfl (je_var 0) je_int (fun _ _ => rfl)))
    (jss_cons (js_setS (i := 3) sc_cap_of.nd rfl (Or.inl rfl) (je_ix rfl (je_var 0) je_int (fun _ _ => rfl)))
    (jss_one (js_ret (je_op jo_mul (je_callC C_twofold (takesF _ _ _) hr rfl (ja_cons (je_var 1) ja_nil)) (je_op jo_sub (je_var 2) (je_op jo_mul (je_var 3) (je_var 1))))))))⟩
theorem hfn_held : m_held = runF 3 3 b_held := by rfl
theorem sc_held : FnScope ["shelf", "first", "behind"] ["shelf", "first", "behind"] (defScope s_held) := ⟨rfl, rfl, rfl, by decide +kernel, rfl, by decide +kernel, by decide +kernel⟩
theorem ok_held (D_held : Def K mg "held" s_held ["shelf", "first", "behind"]) (T : Txt K mg)  : Callee P w K mg base 1 "held" ["shelf", "first", "behind"] (spF K 3 m_held) := by
  refine Def.pureF (hfn_held) D_held sc_held rfl rfl fun f cdv A outer s H E hr => ?_
  have hu := hu64 hr
  exact ⟨_, (jss_one (js_ret (je_callB (jc_len rfl) (by rfl) T.n_len (by rfl) (ja_cons (JL.je (jl_comp ["place", "thing"] [(1, "first"), (2, "behind")] rfl (ji_enum rfl rfl T.n_enumerate (ja_cons (je_var 0) ja_nil)) ⟨⟨rfl, Or.inl rfl, Or.inl rfl⟩, ⟨⟨rfl, Or.inl rfl, Or.inl rfl⟩, trivial⟩⟩ (gk_two (by decide) (by decide)) (fun _ _ _ _ => jg_two (i := 0) (j := 1) rfl rfl (show (["place", "thing", "first", "behind"] : List Str).Nodup by decide +kernel) rfl (Or.inl rfl) rfl (Or.inl rfl) (Or.inr rfl) (Or.inr rfl)) (fun _ _ _ _ => (jts_one (JW.jt (jw_and (jt_chain jo_le jo_lt (je_var 2) (je_var 0) (je_var 3)) (jw_and1 (jt_cmp (jo_ne rfl hu) (je_var 1) (je_tup ja_nil) (nomark _))))))) (fun _ _ _ _ => (je_var 1)) rfl (by decide) (by decide) (by rfl))) ja_nil))))⟩
theorem hfn_done : m_done = runL 2 5 b_done := by rfl
theorem sc_done : FnScope ["shelf", "writes", "places", "place", "thing"] ["shelf", "writes"] (defScope s_done) := ⟨rfl, rfl, rfl, by decide +kernel, rfl, by decide +kernel, by decide +kernel⟩
theorem ok_done (D_done : Def K mg "done" s_done ["shelf", "writes"]) (T : Txt K mg)  : Callee P w K mg base 1 "done" ["shelf", "writes"] (spL K 2 m_done) := by
  refine Def.pureL (hfn_done) D_done sc_done rfl rfl fun f cdv A outer s H E hr => ?_
  have hu := hu64 hr
  exact ⟨_, (jss_cons (js_setL (i := 2) sc_done.nd rfl (Or.inl rfl) (jl_callTy (jc_list rfl) (by rfl) T.n_list (by rfl) (ja_cons (je_var 0) ja_nil)))
    (jss_cons (js_for PassesOwn.never rfl (ji_list rfl (je_var 1)) (jgs_two (i := 3) (j := 4) rfl rfl sc_done.nd rfl (Or.inl rfl) rfl (Or.inl rfl))
      (jss_one (js_setIS 2 (je_var 4) (je_var 3))))
    (jss_one (js_retO 2))))⟩
theorem hfn_targets : m_targets = runL 2 2 b_targets := by rfl
theorem sc_targets : FnScope ["many", "size"] ["many", "size"] (defScope s_targets) := ⟨rfl, rfl, rfl, by decide +kernel, rfl, by decide +kernel, by decide +kernel⟩
theorem ok_targets (D_targets : Def K mg "targets" s_targets ["many", "size"]) (T : Txt K mg)  : Callee P w K mg base 1 "targets" ["many", "size"] (spL K 2 m_targets) := by
  refine Def.pureL (hfn_targets) D_targets sc_targets rfl rfl fun f cdv A outer s H E hr => ?_
  have hu := hu64 hr
  exact ⟨_, (jss_one (js_retL (jl_comp ["number"] [(0, "many"), (1, "size")] rfl (ji_range1 rfl T.n_range (ja_cons (je_var 0) ja_nil)) ⟨⟨rfl, Or.inl rfl, Or.inl rfl⟩, ⟨⟨rfl, Or.inl rfl, Or.inl rfl⟩, trivial⟩⟩ (gk_name (by decide)) (fun _ _ _ _ => jg_name (i := 0) (show (["number", "many", "size"] : List Str).Nodup by decide +kernel) rfl (Or.inl rfl) (Or.inr rfl)) (fun _ _ _ _ => jts_nil) (fun _ _ _ _ => (je_op jo_div (je_op jo_mul (je_var 0) (je_var 2)) (je_var 1))) rfl (by decide) (by decide) (by rfl))))⟩
theorem hfn_moves_of : m_moves_of = runL 2 5 b_moves_of := by rfl
theorem sc_moves_of : FnScope ["places", "aims", "pairs", "farther_on", "nearer"] ["places", "aims"] (defScope s_moves_of) := ⟨rfl, rfl, rfl, by decide +kernel, rfl, by decide +kernel, by decide +kernel⟩
theorem ok_moves_of (D_moves_of : Def K mg "moves_of" s_moves_of ["places", "aims"]) (T : Txt K mg)  : Callee P w K mg base 1 "moves_of" ["places", "aims"] (spL K 2 m_moves_of) := by
  refine Def.pureL (hfn_moves_of) D_moves_of sc_moves_of rfl rfl fun f cdv A outer s H E hr => ?_
  have hu := hu64 hr
  exact ⟨_, (jss_cons (js_setS (i := 2) sc_moves_of.nd rfl (Or.inl rfl) (JL.je (jl_listZip rfl hr.hd rfl T.n_list rfl T.n_zip (ja_cons (je_var 0) (ja_cons (je_var 1) ja_nil)))))
    (jss_cons (js_setCompV (i := 3) vSL pv_SL ["pair"] [] sc_moves_of.nd rfl (Or.inl rfl) rfl (ji_rev rfl rfl T.n_reversed (ja_cons (je_var 2) ja_nil)) trivial (gk_name (by decide)) (fun _ _ _ _ => jg_name (i := 0) (show (["pair"] : List Str).Nodup by decide +kernel) rfl (Or.inl rfl) (Or.inr rfl)) (fun _ _ _ _ => (jts_one (jt_cmp jo_gt (je_ix rfl (je_var 0) je_int (fun _ _ => rfl)) (je_ix rfl (je_var 0) je_int (fun _ _ => rfl)) (nomark _)))) (fun _ _ _ _ => (je_var 0)) rfl (by decide) (by decide) (nofree (by decide)) (by rfl))
    (jss_cons (js_setCompV (i := 4) vSL pv_SL ["pair"] [] sc_moves_of.nd rfl (Or.inl rfl) rfl (ji_list rfl (je_var 2)) trivial (gk_name (by decide)) (fun _ _ _ _ => jg_name (i := 0) (show (["pair"] : List Str).Nodup by decide +kernel) rfl (Or.inl rfl) (Or.inr rfl)) (fun _ _ _ _ => (jts_one (jt_cmp jo_lt (je_ix rfl (je_var 0) je_int (fun _ _ => rfl)) (je_ix rfl (je_var 0) je_int (fun _ _ => rfl)) (nomark _)))) (fun _ _ _ _ => (je_var 0)) rfl (by decide) (by decide) (nofree (by decide)) (by rfl))
    (jss_one (js_retL (jl_cat rfl (je_var 3) (je_var 4)))))))⟩
theorem hfn_writes_of : m_writes_of = runL 2 7 b_writes_of := by rfl
theorem sc_writes_of : FnScope ["shelf", "moves", "lying", "writes", "place", "target", "two"] ["shelf", "moves"] (defScope s_writes_of) := ⟨rfl, rfl, rfl, by decide +kernel, rfl, by decide +kernel, by decide +kernel⟩
theorem ok_writes_of (D_writes_of : Def K mg "writes_of" s_writes_of ["shelf", "moves"]) (T : Txt K mg) (C_done : Callee P w K mg base 1 "done" ["shelf", "writes"] (spL K 2 m_done)) : Callee P w K mg base 2 "writes_of" ["shelf", "moves"] (spL K 2 m_writes_of) := by
  refine Def.pureL (hfn_writes_of) D_writes_of sc_writes_of rfl rfl fun f cdv A outer s H E hr => ?_
  have hu := hu64 hr
  exact ⟨_, (jss_cons (js_setS (i := 2) sc_writes_of.nd rfl (Or.inl rfl) (je_var 0))
    (jss_cons (js_setL (i := 3) sc_writes_of.nd rfl (Or.inl rfl) (jl_lst ja_nil))
    (jss_cons (js_for PassesOwn.never rfl (ji_list rfl (je_var 1)) (jgs_two (i := 4) (j := 5) rfl rfl sc_writes_of.nd rfl (Or.inl rfl) rfl (Or.inl rfl))
      (jss_cons (js_setS (i := 6) sc_writes_of.nd rfl (Or.inl rfl) (JL.je (jl_lst (ja_cons (je_tup (ja_cons (je_var 5) (ja_cons (je_ix rfl (je_var 2) (je_var 4) (fun _ _ => rfl)) ja_nil))) (ja_cons (je_tup (ja_cons (je_var 4) (ja_cons (je_tup ja_nil) ja_nil))) ja_nil)))))
      (jss_cons (js_setS (i := 2) sc_writes_of.nd rfl (Or.inl rfl) (JL.je (jl_callC C_done (takesL _ _ _) hr rfl (ja_cons (je_var 2) (ja_cons (je_var 6) ja_nil)))))
      (jss_one (js_extS 3 (je_var 6) rfl)))))
    (jss_one (js_retO 3)))))⟩
theorem hfn_place_of : m_place_of = runF 2 4 b_place_of := by rfl
theorem sc_place_of : FnScope ["shelf", "key", "place", "thing"] ["shelf", "key"] (defScope s_place_of) := ⟨rfl, rfl, rfl, by decide +kernel, rfl, by decide +kernel, by decide +kernel⟩
theorem ok_place_of (D_place_of : Def K mg "place_of" s_place_of ["shelf", "key"]) (T : Txt K mg)  : Callee P w K mg base 1 "place_of" ["shelf", "key"] (spF K 2 m_place_of) := by
  refine Def.pureF (hfn_place_of) D_place_of sc_place_of rfl rfl fun f cdv A outer s H E hr => ?_
  have hu := hu64 hr
  exact ⟨_, (jss_cons (js_for PassesOwn.never rfl (ji_enum rfl rfl T.n_enumerate (ja_cons (je_var 0) ja_nil)) (jgs_two (i := 2) (j := 3) rfl rfl sc_place_of.nd rfl (Or.inl rfl) rfl (Or.inl rfl))
      (jss_one (js_if (JW.jt (jw_and (jt_cmp (jo_ne rfl hu) (je_var 3) (je_tup ja_nil) (nomark _)) (jw_and1 (jt_cmp (jo_eq rfl hu) (je_ix rfl (je_var 3) je_int (fun _ _ => rfl)) (je_var 1) (nomark _)))))
        (jss_one (js_ret (je_var 2))) jss_nil)))
    (jss_one (js_ret je_non)))⟩
theorem hfn_seat_of : m_seat_of = runF 2 5 b_seat_of := by rfl
theorem sc_seat_of : FnScope ["shelf", "key", "seat", "place", "thing"] ["shelf", "key"] (defScope s_seat_of) := ⟨rfl, rfl, rfl, by decide +kernel, rfl, by decide +kernel, by decide +kernel⟩
theorem ok_seat_of (D_seat_of : Def K mg "seat_of" s_seat_of ["shelf", "key"]) (T : Txt K mg)  : Callee P w K mg base 1 "seat_of" ["shelf", "key"] (spF K 2 m_seat_of) := by
  refine Def.pureF (hfn_seat_of) D_seat_of sc_seat_of rfl rfl fun f cdv A outer s H E hr => ?_
  have hu := hu64 hr
  exact ⟨_, (jss_cons (js_setS (i := 2) sc_seat_of.nd rfl (Or.inl rfl) je_int)
    (jss_cons (js_for PassesOwn.never rfl (ji_enum rfl rfl T.n_enumerate (ja_cons (je_var 0) ja_nil)) (jgs_two (i := 3) (j := 4) rfl rfl sc_seat_of.nd rfl (Or.inl rfl) rfl (Or.inl rfl))
      (jss_one (js_if (JW.jt (jw_and (jt_cmp (jo_ne rfl hu) (je_var 4) (je_tup ja_nil) (nomark _)) (jw_and1 (jt_cmp jo_lt (je_ix rfl (je_var 4) je_int (fun _ _ => rfl)) (je_var 1) (nomark _)))))
        (jss_one (js_setS (i := 2) sc_seat_of.nd rfl (Or.inl rfl) (je_var 3))) jss_nil)))
    (jss_one (js_ret (je_var 2)))))⟩
theorem hfn_height_for : m_height_for = runF 4 7 b_height_for := by rfl
theorem sc_height_for : FnScope ["bounds", "height", "shelf", "key", "seat", "level", "stretch"] ["bounds", "height", "shelf", "key"] (defScope s_height_for) := ⟨rfl, rfl, rfl, by decide +kernel, rfl, by decide +kernel, by decide +kernel⟩
theorem ok_height_for (D_height_for : Def K mg "height_for" s_height_for ["bounds", "height", "shelf", "key"]) (T : Txt K mg) (C_cap_of : Callee P w K mg base 3 "cap_of" ["bounds", "height"] (spF K 2 m_cap_of)) (C_held : Callee P w K mg base 3 "held" ["shelf", "first", "behind"] (spF K 3 m_held)) (C_seat_of : Callee P w K mg base 3 "seat_of" ["shelf", "key"] (spF K 2 m_seat_of)) (C_stretch_of : Callee P w K mg base 3 "stretch_of" ["bounds", "height", "place"] (spF K 3 m_stretch_of)) : Callee P w K mg base 4 "height_for" ["bounds", "height", "shelf", "key"] (spF K 4 m_height_for) := by
  refine Def.pureF (hfn_height_for) D_height_for sc_height_for rfl rfl fun f cdv A outer s H E hr => ?_
  have hu := hu64 hr
  exact ⟨_, (jss_cons (js_setS (i := 4) sc_height_for.nd rfl (Or.inl rfl) (je_callC C_seat_of (takesF _ _ _) hr rfl (ja_cons (je_var 2) (ja_cons (je_var 3) ja_nil))))
    (jss_cons (js_for PassesOwn.never rfl (ji_range1 rfl T.n_range (ja_cons (je_op jo_add (je_var 1) je_int) ja_nil)) (jgs_name (i := 5) sc_height_for.nd rfl (Or.inl rfl))
      (jss_cons (js_setS (i := 6) sc_height_for.nd rfl (Or.inl rfl) (je_callC C_stretch_of (takesF _ _ _) hr rfl (ja_cons (je_var 0) (ja_cons (je_var 5) (ja_cons (je_var 4) ja_nil)))))
      (jss_one (js_if (jt_cmp jo_lt (je_callC C_held (takesF _ _ _) hr rfl (ja_cons (je_var 2) (ja_cons (je_ix rfl (je_var 6) je_int (fun _ _ => rfl)) (ja_cons (je_ix rfl (je_var 6) je_int (fun _ _ => rfl)) ja_nil)))) (je_callC C_cap_of (takesF _ _ _) hr rfl (ja_cons (je_var 0) (ja_cons (je_var 5) ja_nil))) (nomark _))
        (jss_one (js_ret (je_var 5))) jss_nil))))
    (jss_one (js_ret je_non))))⟩
theorem hfn_evening_writes : m_evening_writes = runL 3 9 b_evening_writes := by rfl
theorem sc_evening_writes : FnScope ["shelf", "stretch", "thing", "first", "behind", "places", "aims", "lesser", "aim"] ["shelf", "stretch", "thing"] (defScope s_evening_writes) := ⟨rfl, rfl, rfl, by decide +kernel, rfl, by decide +kernel, by decide +kernel⟩
theorem ok_evening_writes (D_evening_writes : Def K mg "evening_writes" s_evening_writes ["shelf", "stretch", "thing"]) (T : Txt K mg) (C_moves_of : Callee P w K mg base 2 "moves_of" ["places", "aims"] (spL K 2 m_moves_of)) (C_targets : Callee P w K mg base 2 "targets" ["many", "size"] (spL K 2 m_targets)) (C_writes_of : Callee P w K mg base 2 "writes_of" ["shelf", "moves"] (spL K 2 m_writes_of)) : Callee P w K mg base 3 "evening_writes" ["shelf", "stretch", "thing"] (spL K 3 m_evening_writes) := by
  refine Def.pureL (hfn_evening_writes) D_evening_writes sc_evening_writes rfl rfl fun f cdv A outer s H E hr => ?_
  have hu := hu64 hr
  exact ⟨_, (jss_cons (js_setS (i := 3) sc_evening_writes.nd rfl (Or.inr rfl) (je_ix rfl (je_var 1) je_int (fun _ _ => rfl)))
    (jss_cons (js_setS (i := 4) sc_evening_writes.nd rfl (Or.inl rfl) (je_ix rfl (je_var 1) je_int (fun _ _ => rfl)))
    (jss_cons (js_setCompV (i := 5) vSL pv_SL ["place"] [(0, "shelf")] sc_evening_writes.nd rfl (Or.inl rfl) rfl (ji_range2 rfl T.n_range (ja_cons (je_var 3) (ja_cons (je_var 4) ja_nil))) ⟨⟨rfl, Or.inl rfl, Or.inl rfl⟩, trivial⟩ (gk_name (by decide)) (fun _ _ _ _ => jg_name (i := 0) (show (["place", "shelf"] : List Str).Nodup by decide +kernel) rfl (Or.inl rfl) (Or.inr rfl)) (fun _ _ _ _ => (jts_one (jt_cmp (jo_ne rfl hu) (je_ix rfl (je_var 1) (je_var 0) (fun _ _ => rfl)) (je_tup ja_nil) (nomark _)))) (fun _ _ _ _ => (je_var 0)) rfl (by decide) (by decide) (by rfl) (by rfl))
    (jss_cons (js_setCompV (i := 6) vL pv_L ["target"] [(3, "first")] sc_evening_writes.nd rfl (Or.inl rfl) rfl (ji_list rfl (JL.je (jl_callC C_targets (takesL _ _ _) hr rfl (ja_cons (je_op jo_add (je_callB (jc_len rfl) (by rfl) T.n_len (by rfl) (ja_cons (je_var 5) ja_nil)) je_int) (ja_cons (je_op jo_sub (je_var 4) (je_var 3)) ja_nil))))) ⟨⟨rfl, Or.inl rfl, Or.inl rfl⟩, trivial⟩ (gk_name (by decide)) (fun _ _ _ _ => jg_name (i := 0) (show (["target", "first"] : List Str).Nodup by decide +kernel) rfl (Or.inl rfl) (Or.inr rfl)) (fun _ _ _ _ => jts_nil) (fun _ _ _ _ => (je_op jo_add (je_var 1) (je_var 0))) rfl (by decide) (by decide) (by rfl) (by rfl))
    (jss_cons (js_setCompV (i := 7) vSL pv_SL ["place"] [(2, "thing"), (0, "shelf")] sc_evening_writes.nd rfl (Or.inl rfl) rfl (ji_list rfl (je_var 5)) ⟨⟨rfl, Or.inl rfl, Or.inl rfl⟩, ⟨⟨rfl, Or.inl rfl, Or.inl rfl⟩, trivial⟩⟩ (gk_name (by decide)) (fun _ _ _ _ => jg_name (i := 0) (show (["place", "thing", "shelf"] : List Str).Nodup by decide +kernel) rfl (Or.inl rfl) (Or.inr rfl)) (fun _ _ _ _ => (jts_one (jt_cmp jo_lt (je_ix rfl (je_ix rfl (je_var 2) (je_var 0) (fun _ _ => rfl)) je_int (fun _ _ => rfl)) (je_ix rfl (je_var 1) je_int (fun _ _ => rfl)) (nomark _)))) (fun _ _ _ _ => (je_var 0)) rfl (by decide) (by decide) (by rfl) (by rfl))
    (jss_cons (js_setPop 6 8 (je_callB (jc_len rfl) (by rfl) T.n_len (by rfl) (ja_cons (je_var 7) ja_nil)) rfl sc_evening_writes.nd rfl (Or.inl rfl))
    (jss_one (js_retL (jl_cat rfl (JL.je (jl_callC C_writes_of (takesL _ _ _) hr rfl (ja_cons (je_var 0) (ja_cons (JL.je (jl_callC C_moves_of (takesL _ _ _) hr rfl (ja_cons (je_var 5) (ja_cons (je_var 6) ja_nil)))) ja_nil)))) (JL.je (jl_lst (ja_cons (je_tup (ja_cons (je_var 8) (ja_cons (je_var 2) ja_nil))) ja_nil))))))))))))⟩
theorem hfn_put_writes : m_put_writes = runL 5 7 b_put_writes := by rfl
theorem sc_put_writes : FnScope ["bounds", "height", "shelf", "key", "amount", "place", "level"] ["bounds", "height", "shelf", "key", "amount"] (defScope s_put_writes) := ⟨rfl, rfl, rfl, by decide +kernel, rfl, by decide +kernel, by decide +kernel⟩
theorem ok_put_writes (D_put_writes : Def K mg "put_writes" s_put_writes ["bounds", "height", "shelf", "key", "amount"]) (T : Txt K mg) (C_cap_of : Callee P w K mg base 4 "cap_of" ["bounds", "height"] (spF K 2 m_cap_of)) (C_evening_writes : Callee P w K mg base 4 "evening_writes" ["shelf", "stretch", "thing"] (spL K 3 m_evening_writes)) (C_height_for : Callee P w K mg base 4 "height_for" ["bounds", "height", "shelf", "key"] (spF K 4 m_height_for)) (C_held : Callee P w K mg base 4 "held" ["shelf", "first", "behind"] (spF K 3 m_held)) (C_place_of : Callee P w K mg base 4 "place_of" ["shelf", "key"] (spF K 2 m_place_of)) (C_seat_of : Callee P w K mg base 4 "seat_of" ["shelf", "key"] (spF K 2 m_seat_of)) (C_stretch_of : Callee P w K mg base 4 "stretch_of" ["bounds", "height", "place"] (spF K 3 m_stretch_of)) : Callee P w K mg base 5 "put_writes" ["bounds", "height", "shelf", "key", "amount"] (spL K 5 m_put_writes) := by
  refine Def.pureL (hfn_put_writes) D_put_writes sc_put_writes rfl rfl fun f cdv A outer s H E hr => ?_
  have hu := hu64 hr
  exact ⟨_, (jss_cons (js_setS (i := 5) sc_put_writes.nd rfl (Or.inl rfl) (je_callC C_place_of (takesF _ _ _) hr rfl (ja_cons (je_var 2) (ja_cons (je_var 3) ja_nil))))
    (jss_cons (js_if (jt_cmp jo_notN (je_var 5) je_non (nomark _))
      (jss_one (js_retL (jl_lst (ja_cons (je_tup (ja_cons (je_var 5) (ja_cons (je_tup (ja_cons (je_var 3) (ja_cons (je_var 4) ja_nil))) ja_nil))) ja_nil)))) jss_nil)
    (jss_cons (js_if (jt_cmp jo_ge (je_callC C_held (takesF _ _ _) hr rfl (ja_cons (je_var 2) (ja_cons je_int (ja_cons (je_callB (jc_len rfl) (by rfl) T.n_len (by rfl) (ja_cons (je_var 2) ja_nil)) ja_nil)))) (je_callC C_cap_of (takesF _ _ _) hr rfl (ja_cons (je_var 0) (ja_cons (je_var 1) ja_nil))) (nomark _))
      (jss_one (js_never)) jss_nil)
    (jss_cons (js_setS (i := 6) sc_put_writes.nd rfl (Or.inl rfl) (je_callC C_height_for (takesF _ _ _) hr rfl (ja_cons (je_var 0) (ja_cons (je_var 1) (ja_cons (je_var 2) (ja_cons (je_var 3) ja_nil))))))
    (jss_one (js_retL (jl_callC C_evening_writes (takesL _ _ _) hr rfl (ja_cons (je_var 2) (ja_cons (je_callC C_stretch_of (takesF _ _ _) hr rfl (ja_cons (je_var 0) (ja_cons (je_var 6) (ja_cons (je_callC C_seat_of (takesF _ _ _) hr rfl (ja_cons (je_var 2) (ja_cons (je_var 3) ja_nil))) ja_nil)))) (ja_cons (je_tup (ja_cons (je_var 3) (ja_cons (je_var 4) ja_nil))) ja_nil))))))))))⟩
theorem hfn_take_writes : m_take_writes = runL 2 3 b_take_writes := by rfl
theorem sc_take_writes : FnScope ["shelf", "key", "place"] ["shelf", "key"] (defScope s_take_writes) := ⟨rfl, rfl, rfl, by decide +kernel, rfl, by decide +kernel, by decide +kernel⟩
theorem ok_take_writes (D_take_writes : Def K mg "take_writes" s_take_writes ["shelf", "key"]) (T : Txt K mg) (C_place_of : Callee P w K mg base 1 "place_of" ["shelf", "key"] (spF K 2 m_place_of)) : Callee P w K mg base 2 "take_writes" ["shelf", "key"] (spL K 2 m_take_writes) := by
  refine Def.pureL (hfn_take_writes) D_take_writes sc_take_writes rfl rfl fun f cdv A outer s H E hr => ?_
  have hu := hu64 hr
  exact ⟨_, (jss_cons (js_setS (i := 2) sc_take_writes.nd rfl (Or.inl rfl) (je_callC C_place_of (takesF _ _ _) hr rfl (ja_cons (je_var 0) (ja_cons (je_var 1) ja_nil))))
    (jss_cons (js_if (jt_cmp jo_isN (je_var 2) je_non (nomark _))
      (jss_one (js_never)) jss_nil)
    (jss_one (js_retL (jl_lst (ja_cons (je_tup (ja_cons (je_var 2) (ja_cons (je_tup ja_nil) ja_nil))) ja_nil))))))⟩
theorem hfn__law_cell : m__law_cell = runF 2 2 b__law_cell := by rfl
theorem sc__law_cell : FnScope ["script", "k"] ["script", "k"] (defScope s__law_cell) := ⟨rfl, rfl, rfl, by decide +kernel, rfl, by decide +kernel, by decide +kernel⟩
theorem ok__law_cell (D__law_cell : Def K mg "_law_cell" s__law_cell ["script", "k"]) (T : Txt K mg)  : Callee P w K mg base 1 "_law_cell" ["script", "k"] (spF K 2 m__law_cell) := by
  refine Def.pureF (hfn__law_cell) D__law_cell sc__law_cell rfl rfl fun f cdv A outer s H E hr => ?_
  have hu := hu64 hr
  exact ⟨_, (jss_cons (js_if (jt_cmp jo_lt (je_var 1) (je_callB (jc_len rfl) (by rfl) T.n_len (by rfl) (ja_cons (je_var 0) ja_nil)) (nomark _))
      (jss_one (js_ret (je_ix rfl (je_var 0) (je_var 1) (fun _ _ => rfl)))) jss_nil)
    (jss_one (js_ret je_int)))⟩
theorem hfn__law_spread : m__law_spread = runF 1 2 b__law_spread := by rfl
theorem sc__law_spread : FnScope ["cell", "number"] ["cell"] (defScope s__law_spread) := ⟨rfl, rfl, rfl, by decide +kernel, rfl, by decide +kernel, by decide +kernel⟩
theorem ok__law_spread (D__law_spread : Def K mg "_law_spread" s__law_spread ["cell"]) (T : Txt K mg)  : Callee P w K mg base 1 "_law_spread" ["cell"] (spF K 1 m__law_spread) := by
  refine Def.pureF (hfn__law_spread) D__law_spread sc__law_spread rfl rfl fun f cdv A outer s H E hr => ?_
  have hu := hu64 hr
  exact ⟨_, (jss_cons (js_setS (i := 1) sc__law_spread.nd rfl (Or.inl rfl) (je_op jo_mod (je_op jo_mul (je_op jo_add (je_op jo_mod (je_var 0) je_int) je_int) je_int) je_int))
    (jss_one (js_ret (je_op jo_add (je_op jo_mod (je_op jo_mul (je_var 1) (je_var 1)) je_int) (je_op jo_mul (je_op jo_mod (je_var 0) (je_op jo_pow je_int je_int)) je_int)))))⟩
theorem hfn__law_small : m__law_small = runF 1 5 b__law_small := by rfl
theorem sc__law_small : FnScope ["cell", "number", "top", "step", "more"] ["cell"] (defScope s__law_small) := ⟨rfl, rfl, rfl, by decide +kernel, rfl, by decide +kernel, by decide +kernel⟩
theorem ok__law_small (D__law_small : Def K mg "_law_small" s__law_small ["cell"]) (T : Txt K mg) (C__law_spread : Callee P w K mg base 1 "_law_spread" ["cell"] (spF K 1 m__law_spread)) : Callee P w K mg base 2 "_law_small" ["cell"] (spF K 1 m__law_small) := by
  refine Def.pureF (hfn__law_small) D__law_small sc__law_small rfl rfl fun f cdv A outer s H E hr => ?_
  have hu := hu64 hr
  exact ⟨_, (jss_cons (js_setS (i := 1) sc__law_small.nd rfl (Or.inl rfl) (je_callC C__law_spread (takesF _ _ _) hr rfl (ja_cons (je_var 0) ja_nil)))
    (jss_cons (js_setS (i := 2) sc__law_small.nd rfl (Or.inl rfl) (je_ix rfl (JL.je (jl_lst (ja_cons je_int (ja_cons je_int (ja_cons je_int (ja_cons je_int (ja_cons je_int (ja_cons je_int (ja_cons je_int (ja_cons je_int ja_nil)))))))))) (je_op jo_mod (je_var 1) je_int) (fun _ _ => rfl)))
    (jss_cons (js_setS (i := 3) sc__law_small.nd rfl (Or.inl rfl) (je_op jo_add je_int (je_op jo_mod (je_op jo_div (je_var 1) je_int) (je_op jo_div je_int (je_op jo_add (je_var 2) je_int)))))
    (jss_cons (js_setS (i := 4) sc__law_small.nd rfl (Or.inl rfl) (je_op jo_mod (je_op jo_div (je_var 1) je_int) (je_ix rfl (JL.je (jl_lst (ja_cons je_int (ja_cons (je_ix rfl (JL.je (jl_lst (ja_cons je_int (ja_cons je_int (ja_cons je_int (ja_cons je_int (ja_cons je_int ja_nil))))))) (je_var 2) (fun _ _ => rfl)) ja_nil)))) (je_op jo_mod (je_op jo_div (je_var 1) je_int) je_int) (fun _ _ => rfl))))
    (jss_one (js_ret (je_tup (ja_cons (je_var 2) (ja_cons (je_op jo_add (je_op jo_mul (je_var 3) (je_op jo_add (je_var 2) je_int)) (je_var 4)) (ja_cons (je_var 3) ja_nil))))))))))⟩
theorem hfn__law_two : m__law_two = runF 1 1 b__law_two := by rfl
theorem sc__law_two : FnScope ["height"] ["height"] (defScope s__law_two) := ⟨rfl, rfl, rfl, by decide +kernel, rfl, by decide +kernel, by decide +kernel⟩
theorem ok__law_two (D__law_two : Def K mg "_law_two" s__law_two ["height"]) (T : Txt K mg)  : Callee P w K mg base 1 "_law_two" ["height"] (spF K 1 m__law_two) := by
  refine Def.pureF (hfn__law_two) D__law_two sc__law_two rfl rfl fun f cdv A outer s H E hr => ?_
  have hu := hu64 hr
  exact ⟨_, (jss_one (js_ret (je_ix rfl (JL.je (jl_lst (ja_cons je_int (ja_cons je_int (ja_cons je_int (ja_cons je_int (ja_cons je_int ja_nil))))))) (je_var 0) (fun _ _ => rfl))))⟩
theorem hfn__law_rows : m__law_rows = runL 1 3 b__law_rows := by rfl
theorem sc__law_rows : FnScope ["shelf", "rows", "thing"] ["shelf"] (defScope s__law_rows) := ⟨rfl, rfl, rfl, by decide +kernel, rfl, by decide +kernel, by decide +kernel⟩
theorem ok__law_rows (D__law_rows : Def K mg "_law_rows" s__law_rows ["shelf"]) (T : Txt K mg)  : Callee P w K mg base 1 "_law_rows" ["shelf"] (spL K 1 m__law_rows) := by
  refine Def.pureL (hfn__law_rows) D__law_rows sc__law_rows rfl rfl fun f cdv A outer s H E hr => ?_
  have hu := hu64 hr
  exact ⟨_, (jss_cons (js_setL (i := 1) sc__law_rows.nd rfl (Or.inl rfl) (jl_lst ja_nil))
    (jss_cons (js_for PassesOwn.never rfl (ji_list rfl (je_var 0)) (jgs_name (i := 2) sc__law_rows.nd rfl (Or.inl rfl))
      (jss_one (js_if (JW.jt (jw_and (jt_cmp (jo_ne rfl hu) (je_var 2) (je_tup ja_nil) (nomark _)) (jw_and1 (JW.jt (jw_or (jt_cmp (jo_eq rfl hu) (je_var 1) (JL.je (jl_lst ja_nil)) (nomark _)) (jw_or1 (jt_cmp (jo_ne rfl hu) (je_ix rfl (je_var 1) (je_neg je_int) (fun _ _ => rfl)) (je_var 2) (nomark _))))))))
        (jss_one (js_appS 1 (je_var 2) rfl)) jss_nil)))
    (jss_one (js_retO 1))))⟩
theorem hfn__law_sound : m__law_sound = runF 1 3 b__law_sound := by rfl
theorem sc__law_sound : FnScope ["shelf", "rows", "k"] ["shelf"] (defScope s__law_sound) := ⟨rfl, rfl, rfl, by decide +kernel, rfl, by decide +kernel, by decide +kernel⟩
theorem ok__law_sound (D__law_sound : Def K mg "_law_sound" s__law_sound ["shelf"]) (T : Txt K mg) (C__law_rows : Callee P w K mg base 1 "_law_rows" ["shelf"] (spL K 1 m__law_rows)) : Callee P w K mg base 2 "_law_sound" ["shelf"] (spF K 1 m__law_sound) := by
  refine Def.pureF (hfn__law_sound) D__law_sound sc__law_sound rfl rfl fun f cdv A outer s H E hr => ?_
  have hu := hu64 hr
  exact ⟨_, (jss_cons (js_setS (i := 1) sc__law_sound.nd rfl (Or.inl rfl) (JL.je (jl_callC C__law_rows (takesL _ _ _) hr rfl (ja_cons (je_var 0) ja_nil))))
    (jss_cons (js_for PassesOwn.never rfl (ji_range2 rfl T.n_range (ja_cons je_int (ja_cons (je_callB (jc_len rfl) (by rfl) T.n_len (by rfl) (ja_cons (je_var 1) ja_nil)) ja_nil))) (jgs_name (i := 2) sc__law_sound.nd rfl (Or.inl rfl))
      (jss_one (js_if (jt_cmp jo_le (je_ix rfl (je_ix rfl (je_var 1) (je_var 2) (fun _ _ => rfl)) je_int (fun _ _ => rfl)) (je_ix rfl (je_ix rfl (je_var 1) (je_op jo_sub (je_var 2) je_int) (fun _ _ => rfl)) je_int (fun _ _ => rfl)) (nomark _))
        (jss_one (js_ret je_bl)) jss_nil)))
    (jss_one (js_ret (je_cmp jo_le (je_callB (jc_len rfl) (by rfl) T.n_len (by rfl) (ja_cons (JL.je (jl_comp ["thing"] [] rfl (ji_list rfl (je_var 0)) trivial (gk_name (by decide)) (fun _ _ _ _ => jg_name (i := 0) (show (["thing"] : List Str).Nodup by decide +kernel) rfl (Or.inl rfl) (Or.inr rfl)) (fun _ _ _ _ => (jts_one (jt_cmp (jo_ne rfl hu) (je_var 0) (je_tup ja_nil) (nomark _)))) (fun _ _ _ _ => (je_var 0)) rfl (by decide) (by decide) (nofree (by decide)))) ja_nil)) (je_op jo_add (je_callB (jc_len rfl) (by rfl) T.n_len (by rfl) (ja_cons (je_var 1) ja_nil)) je_int) (nomark _))))))⟩
theorem hfn__law_key : m__law_key = runF 3 6 b__law_key := by rfl
theorem sc__law_key : FnScope ["keys", "cell", "crowd", "far", "at", "wide"] ["keys", "cell", "crowd"] (defScope s__law_key) := ⟨rfl, rfl, rfl, by decide +kernel, rfl, by decide +kernel, by decide +kernel⟩
theorem ok__law_key (D__law_key : Def K mg "_law_key" s__law_key ["keys", "cell", "crowd"]) (T : Txt K mg)  : Callee P w K mg base 1 "_law_key" ["keys", "cell", "crowd"] (spF K 3 m__law_key) := by
  refine Def.pureF (hfn__law_key) D__law_key sc__law_key rfl rfl fun f cdv A outer s H E hr => ?_
  have hu := hu64 hr
  exact ⟨_, (jss_cons (js_setS (i := 3) sc__law_key.nd rfl (Or.inl rfl) (je_op jo_mod (je_var 1) (je_op jo_pow je_int je_int)))
    (jss_cons (js_if (jt_cmp (jo_eq rfl hu) (je_var 0) (JL.je (jl_lst ja_nil)) (nomark _))
      (jss_one (js_ret (je_var 3))) jss_nil)
    (jss_cons (js_setS (i := 4) sc__law_key.nd rfl (Or.inl rfl) (je_op jo_mod (je_ix rfl (JL.je (jl_lst (ja_cons (je_op jo_div (je_var 1) je_int) (ja_cons (je_op jo_div (je_callB (jc_len rfl) (by rfl) T.n_len (by rfl) (ja_cons (je_var 0) ja_nil)) je_int) ja_nil)))) (je_callTy jc_int (by rfl) T.n_int (by rfl) (ja_cons (je_var 2) ja_nil)) (fun _ _ => rfl)) (je_op jo_add (je_callB (jc_len rfl) (by rfl) T.n_len (by rfl) (ja_cons (je_var 0) ja_nil)) je_int)))
    (jss_cons (js_setS (i := 5) sc__law_key.nd rfl (Or.inl rfl) (je_ix rfl (JL.je (jl_lst (ja_cons je_int (ja_cons (je_op jo_pow je_int je_int) ja_nil)))) (je_callTy jc_int (by rfl) T.n_int (by rfl) (ja_cons (je_or (je_var 2) (je_one (je_cmp (jo_eq rfl hu) (je_op jo_mod (je_op jo_div (je_var 1) je_int) je_int) je_int (nomark _)))) ja_nil)) (fun _ _ => rfl)))
    (jss_cons (js_if (jt_cmp (jo_eq rfl hu) (je_var 4) je_int (nomark _))
      (jss_one (js_ret (je_op jo_sub (je_op jo_sub (je_ix rfl (je_var 0) je_int (fun _ _ => rfl)) je_int) (je_op jo_mod (je_var 3) (je_var 5))))) jss_nil)
    (jss_cons (js_if (jt_cmp (jo_eq rfl hu) (je_var 4) (je_callB (jc_len rfl) (by rfl) T.n_len (by rfl) (ja_cons (je_var 0) ja_nil)) (nomark _))
      (jss_one (js_ret (je_op jo_add (je_op jo_add (je_ix rfl (je_var 0) (je_neg je_int) (fun _ _ => rfl)) je_int) (je_op jo_mod (je_var 3) (je_var 5))))) jss_nil)
    (jss_one (js_ret (je_op jo_add (je_op jo_add (je_ix rfl (je_var 0) (je_op jo_sub (je_var 4) je_int) (fun _ _ => rfl)) je_int) (je_op jo_mod (je_var 3) (je_callB (jc_max rfl) (by rfl) T.n_max (by rfl) (ja_cons je_int (ja_cons (je_op jo_sub (je_op jo_sub (je_ix rfl (je_var 0) (je_var 4) (fun _ _ => rfl)) (je_ix rfl (je_var 0) (je_op jo_sub (je_var 4) je_int) (fun _ _ => rfl))) je_int) ja_nil)))))))))))))⟩
theorem hfn__law_deed : m__law_deed = runT 6 9 3 b__law_deed := by rfl
theorem sc__law_deed : FnScope ["bounds", "height", "shelf", "model", "cell", "crowd", "keys", "way", "key"] ["bounds", "height", "shelf", "model", "cell", "crowd"] (defScope s__law_deed) := ⟨rfl, rfl, rfl, by decide +kernel, rfl, by decide +kernel, by decide +kernel⟩
theorem ok__law_deed (D__law_deed : Def K mg "_law_deed" s__law_deed ["bounds", "height", "shelf", "model", "cell", "crowd"]) (T : Txt K mg) (C__law_key : Callee P w K mg base 5 "_law_key" ["keys", "cell", "crowd"] (spF K 3 m__law_key)) (C__law_two : Callee P w K mg base 5 "_law_two" ["height"] (spF K 1 m__law_two)) (C_put_writes : Callee P w K mg base 5 "put_writes" ["bounds", "height", "shelf", "key", "amount"] (spL K 5 m_put_writes)) (C_take_writes : Callee P w K mg base 5 "take_writes" ["shelf", "key"] (spL K 2 m_take_writes)) : Callee P w K mg base 6 "_law_deed" ["bounds", "height", "shelf", "model", "cell", "crowd"] (spT K 6 m__law_deed) := by
  refine Def.pureT (hfn__law_deed) D__law_deed sc__law_deed rfl rfl fun f cdv A outer s H E hr => ?_
  have hu := hu64 hr
  have hu1 := hu1' hr
  exact ⟨_, (jss_cons (js_set' (ps_set (i := 6) sc__law_deed.nd rfl (Or.inl rfl) (pe_sortK hr.hd rfl T.n_sorted (pv 3))) pv_sortK)
    (jss_cons (js_setS (i := 7) sc__law_deed.nd rfl (Or.inl rfl) (je_op jo_mod (je_var 4) je_int))
    (jss_cons (js_if (JW.jt (jw_and (jt_cmp jo_lt (je_var 7) je_int (nomark _)) (jw_and1 (jt_cmp (jo_ne rfl hu) (je_var 6) (JL.je (jl_lst ja_nil)) (nomark _)))))
      (jss_cons (js_setS (i := 8) sc__law_deed.nd rfl (Or.inl rfl) (je_ix rfl (je_var 6) (je_op jo_mod (je_op jo_div (je_var 4) je_int) (je_callB (jc_len rfl) (by rfl) T.n_len (by rfl) (ja_cons (je_var 6) ja_nil))) (fun _ _ => rfl)))
      (jss_cons (js_if (jt_cmp (jo_eq rfl hu) (je_var 7) je_int (nomark _))
        (jss_cons (js_setDS hu1 (je_op jo_mod (je_op jo_div (je_var 4) je_int) (je_op jo_pow je_int je_int)) (je_var 8) (pv 3))
        (jss_one (js_retTC C_put_writes (takesL _ _ _) hr rfl (jas_S (je_var 0) (jas_S (je_var 1) (jas_S (je_var 2) (jas_S (je_var 8) (jas_D hu1 (pv 3) (je_var 8) (fun _ _ => rfl) jas_nil)))))))) jss_nil)
      (jss_cons (js_popD (je_var 8) (pv 3) ⟨rfl, rfl, rfl, rfl⟩)
      (jss_one (js_retTL (jl_callC C_take_writes (takesL _ _ _) hr rfl (ja_cons (je_var 2) (ja_cons (je_var 8) ja_nil)))))))) jss_nil)
    (jss_cons (js_setS (i := 8) sc__law_deed.nd rfl (Or.inl rfl) (je_callC C__law_key (takesF _ _ _) hr rfl (ja_cons (je_var 6) (ja_cons (je_op jo_div (je_var 4) je_int) (ja_cons (je_var 5) ja_nil)))))
    (jss_cons (js_ifNI hu1 (je_var 8) (pv 3) (jt_cmp jo_ge (je_callB (jc_len rfl) (by rfl) T.n_len (by rfl) (ja_cons (je_var 6) ja_nil)) (je_op jo_mul (je_callC C__law_two (takesF _ _ _) hr rfl (ja_cons (je_var 1) ja_nil)) (je_op jo_sub (je_ix rfl (je_var 0) je_int (fun _ _ => rfl)) (je_op jo_mul (je_var 1) (je_ix rfl (je_var 0) je_int (fun _ _ => rfl))))) (nomark _))
      (jss_one (js_retTL (jl_lst ja_nil))) jss_nil)
    (jss_cons (js_setDS hu1 (je_ix rfl (JL.je (jl_lst (ja_cons (je_op jo_sub (je_op jo_mod (je_op jo_div (je_var 4) je_int) (je_op jo_pow je_int je_int)) je_int) (ja_cons je_int (ja_cons je_int (ja_cons (je_neg je_int) ja_nil)))))) (je_op jo_mod (je_op jo_div (je_var 4) je_int) je_int) (fun _ _ => rfl)) (je_var 8) (pv 3))
    (jss_one (js_retTC C_put_writes (takesL _ _ _) hr rfl (jas_S (je_var 0) (jas_S (je_var 1) (jas_S (je_var 2) (jas_S (je_var 8) (jas_D hu1 (pv 3) (je_var 8) (fun _ _ => rfl) jas_nil)))))))))))))⟩
theorem hfn__law_free : m__law_free = runF 4 4 b__law_free := by rfl
theorem sc__law_free : FnScope ["slab", "place", "thing", "last"] ["slab", "place", "thing", "last"] (defScope s__law_free) := ⟨rfl, rfl, rfl, by decide +kernel, rfl, by decide +kernel, by decide +kernel⟩
theorem ok__law_free (D__law_free : Def K mg "_law_free" s__law_free ["slab", "place", "thing", "last"]) (T : Txt K mg)  : Callee P w K mg base 1 "_law_free" ["slab", "place", "thing", "last"] (spF K 4 m__law_free) := by
  refine Def.pureF (hfn__law_free) D__law_free sc__law_free rfl rfl fun f cdv A outer s H E hr => ?_
  have hu := hu64 hr
  exact ⟨_, (jss_cons (js_if (jt_cmp (jo_eq rfl hu) (je_var 2) (je_tup ja_nil) (nomark _))
      (jss_one (js_ret (je_or (je_var 3) (je_one (je_cmp (jo_eq rfl hu) (je_count rfl (hu66 hr) (je_var 0) (je_ix rfl (je_var 0) (je_var 1) (fun _ _ => rfl))) je_int (nomark _)))))) jss_nil)
    (jss_one (js_ret (je_or (je_cmp (jo_eq rfl hu) (je_ix rfl (je_var 0) (je_var 1) (fun _ _ => rfl)) (je_tup ja_nil) (nomark _)) (je_one (je_cmp (jo_eq rfl hu) (je_ix rfl (je_ix rfl (je_var 0) (je_var 1) (fun _ _ => rfl)) je_int (fun _ _ => rfl)) (je_ix rfl (je_var 2) je_int (fun _ _ => rfl)) (nomark _)))))))⟩
theorem hfn__law_done : m__law_done = runT 4 8 0 b__law_done := by rfl
theorem sc__law_done : FnScope ["shelf", "writes", "rows", "due", "k", "place", "thing", "things"] ["shelf", "writes", "rows", "due"] (defScope s__law_done) := ⟨rfl, rfl, rfl, by decide +kernel, rfl, by decide +kernel, by decide +kernel⟩
theorem ok__law_done (D__law_done : Def K mg "_law_done" s__law_done ["shelf", "writes", "rows", "due"]) (T : Txt K mg) (C__law_free : Callee P w K mg base 2 "_law_free" ["slab", "place", "thing", "last"] (spF K 4 m__law_free)) (C__law_rows : Callee P w K mg base 2 "_law_rows" ["shelf"] (spL K 1 m__law_rows)) (C__law_sound : Callee P w K mg base 2 "_law_sound" ["shelf"] (spF K 1 m__law_sound)) : Callee P w K mg base 3 "_law_done" ["shelf", "writes", "rows", "due"] (spT K 4 m__law_done) := by
  refine Def.pureT (hfn__law_done) D__law_done sc__law_done rfl rfl fun f cdv A outer s H E hr => ?_
  have hu := hu64 hr
  have hu1 := hu1' hr
  exact ⟨_, (jss_cons (js_for PassesOwn.never rfl (ji_range1 rfl T.n_range (ja_cons (je_callB (jc_len rfl) (by rfl) T.n_len (by rfl) (ja_cons (je_var 1) ja_nil)) ja_nil)) (jgs_name (i := 4) sc__law_done.nd rfl (Or.inl rfl))
      (jss_cons (js_asgS (je_ix rfl (je_var 1) (je_var 4) (fun _ _ => rfl)) (jgs_two (i := 5) (j := 6) rfl rfl sc__law_done.nd rfl (Or.inl rfl) rfl (Or.inl rfl)))
      (jss_cons (js_if (jt_not (jt_val (je_callC C__law_free (takesF _ _ _) hr rfl (ja_cons (je_var 0) (ja_cons (je_var 5) (ja_cons (je_var 6) (ja_cons (je_cmp (jo_eq rfl hu) (je_callB (jc_len rfl) (by rfl) T.n_len (by rfl) (ja_cons (je_var 1) ja_nil)) je_int (nomark _)) ja_nil))))) (fun _ => rfl)))
        (jss_one (js_retTS je_bl)) jss_nil)
      (jss_cons (js_setTS 0 (je_var 6) (je_var 5))
      (jss_one (js_if (JW.jt (jw_and (jt_cmp jo_lt (je_var 4) (je_op jo_sub (je_callB (jc_len rfl) (by rfl) T.n_len (by rfl) (ja_cons (je_var 1) ja_nil)) je_int) (nomark _)) (jw_and1 (JW.jt (jw_or (jt_cmp (jo_ne rfl hu) (JL.je (jl_callC C__law_rows (takesL _ _ _) hr rfl (ja_cons (je_var 0) ja_nil))) (je_var 2) (nomark _)) (jw_or1 (jt_not (jt_val (je_callC C__law_sound (takesF _ _ _) hr rfl (ja_cons (je_var 0) ja_nil)) (fun _ => rfl)))))))))
        (jss_one (js_retTS je_bl)) jss_nil))))))
    (jss_cons (js_setCompV (i := 7) vLS pv_LS ["thing"] [] sc__law_done.nd rfl (Or.inl rfl) rfl (ji_list rfl (je_var 0)) trivial (gk_name (by decide)) (fun _ _ _ _ => jg_name (i := 0) (show (["thing"] : List Str).Nodup by decide +kernel) rfl (Or.inl rfl) (Or.inr rfl)) (fun _ _ _ _ => (jts_one (jt_cmp (jo_ne rfl hu) (je_var 0) (je_tup ja_nil) (nomark _)))) (fun _ _ _ _ => (je_var 0)) rfl (by decide) (by decide) (nofree (by decide)) (by rfl))
    (jss_one (js_retTS (je_cmp (jo_eq rfl hu) (je_var 7) (je_var 3) (nomark _))))))⟩
theorem hfn_law : m_law = runF 1 9 b_law := by rfl
theorem sc_law : FnScope ["script", "bounds", "height", "crowd", "shelf", "model", "cell", "rows", "writes"] ["script"] (defScope s_law) := ⟨rfl, rfl, rfl, by decide +kernel, rfl, by decide +kernel, by decide +kernel⟩
theorem ok_law (D_law : Def K mg "law" s_law ["script"]) (T : Txt K mg) (C__law_cell : Callee P w K mg base 6 "_law_cell" ["script", "k"] (spF K 2 m__law_cell)) (C__law_deed : Callee P w K mg base 6 "_law_deed" ["bounds", "height", "shelf", "model", "cell", "crowd"] (spT K 6 m__law_deed)) (C__law_done : Callee P w K mg base 6 "_law_done" ["shelf", "writes", "rows", "due"] (spT K 4 m__law_done)) (C__law_small : Callee P w K mg base 6 "_law_small" ["cell"] (spF K 1 m__law_small)) (C__law_spread : Callee P w K mg base 6 "_law_spread" ["cell"] (spF K 1 m__law_spread)) (C__law_two : Callee P w K mg base 6 "_law_two" ["height"] (spF K 1 m__law_two)) : Callee P w K mg base 7 "law" ["script"] (spF K 1 m_law) := by
  refine Def.pureF (hfn_law) D_law sc_law rfl rfl fun f cdv A outer s H E hr => ?_
  have hu := hu64 hr
  have hu1 := hu1' hr
  exact ⟨_, (jss_cons (js_setS (i := 1) sc_law.nd rfl (Or.inl rfl) (je_callC C__law_small (takesF _ _ _) hr rfl (ja_cons (je_callC C__law_cell (takesF _ _ _) hr rfl (ja_cons (je_var 0) (ja_cons je_int ja_nil))) ja_nil)))
    (jss_cons (js_setS (i := 2) sc_law.nd rfl (Or.inl rfl) (je_op jo_mod (je_callC C__law_cell (takesF _ _ _) hr rfl (ja_cons (je_var 0) (ja_cons je_int ja_nil))) (je_op jo_add (je_callB (jc_min rfl) (by rfl) T.n_min (by rfl) (ja_cons je_int (ja_cons (je_ix rfl (je_var 1) je_int (fun _ _ => rfl)) ja_nil))) je_int)))
    (jss_cons (js_setS (i := 3) sc_law.nd rfl (Or.inl rfl) (je_cmp (jo_eq rfl hu) (je_op jo_mod (je_op jo_div (je_callC C__law_cell (takesF _ _ _) hr rfl (ja_cons (je_var 0) (ja_cons je_int ja_nil))) je_int) je_int) je_int (nomark _)))
    (jss_cons (js_setCompV (i := 4) vL pv_L ["place"] [] sc_law.nd rfl (Or.inl rfl) rfl (ji_range1 rfl T.n_range (ja_cons (je_op jo_mul (je_callC C__law_two (takesF _ _ _) hr rfl (ja_cons (je_var 2) ja_nil)) (je_ix rfl (je_var 1) je_int (fun _ _ => rfl))) ja_nil)) trivial (gk_name (by decide)) (fun _ _ _ _ => jg_name (i := 0) (show (["place"] : List Str).Nodup by decide +kernel) rfl (Or.inl rfl) (Or.inr rfl)) (fun _ _ _ _ => jts_nil) (fun _ _ _ _ => (je_tup ja_nil)) rfl (by decide) (by decide) (nofree (by decide)) (by rfl))
    (jss_own 4
    (jss_newD (i := 5) sc_law.nd rfl (Or.inl rfl)
    (jss_cons (js_for PassesOwn.never rfl (ji_list rfl (JL.je (jl_comp ["one"] [] rfl (ji_list rfl (JL.je (jl_slice rfl (je_var 0) (jo_some je_int) (jo_some je_int)))) trivial (gk_name (by decide)) (fun _ _ _ _ => jg_name (i := 0) (show (["one"] : List Str).Nodup by decide +kernel) rfl (Or.inl rfl) (Or.inr rfl)) (fun _ _ _ _ => jts_nil) (fun _ _ _ _ => (je_callC C__law_spread (takesF _ _ _) hr rfl (ja_cons (je_var 0) ja_nil))) rfl (by decide) (by decide) (nofree (by decide))))) (jgs_name (i := 6) sc_law.nd rfl (Or.inl rfl))
      (jss_cons (js_set' (ps_set (i := 7) sc_law.nd rfl (Or.inl rfl) (pe_sortI rfl hr.hd rfl T.n_sorted (pv 5))) pv_sortI)
      (jss_cons (js_setM (j := 8) (jm_callT rfl C__law_deed (takesT _ _ _ _) hr rfl (jio_S (je_var 1) (jio_S (je_var 2) (jio_LS (jl_callTy (jc_list rfl) (by rfl) T.n_list (by rfl) (ja_cons (je_var 4) ja_nil)) (jio_here (pv 5) (jas_S (je_var 6) (jas_S (je_var 3) jas_nil))))))) sc_law.nd rfl (Or.inl rfl))
      (jss_one (js_ifNM (jm_callT rfl C__law_done (takesT _ _ _ _) hr rfl (jio_here (pv 4) (jas_S (je_var 8) (jas_S (je_var 7) (jas_cons (pe_sortI rfl hr.hd rfl T.n_sorted (pv 5)) pv_sortI jas_nil)))))
        (jss_one (js_ret je_bl)) jss_nil)))))
    (jss_one (js_ret je_bl)))))))))⟩
theorem chain (T : Txt K mg) (hl : ∀ ns : List Int, ns.length ≤ 63 → m_law [.list (ns.map PyData.int)] = some (.bool true)) (D_twofold : Def K mg "twofold" s_twofold ["height"]) (D_places_of : Def K mg "places_of" s_places_of ["bounds", "height"]) (D_stretch_of : Def K mg "stretch_of" s_stretch_of ["bounds", "height", "place"]) (D_cap_of : Def K mg "cap_of" s_cap_of ["bounds", "height"]) (D_held : Def K mg "held" s_held ["shelf", "first", "behind"]) (D_done : Def K mg "done" s_done ["shelf", "writes"]) (D_targets : Def K mg "targets" s_targets ["many", "size"]) (D_moves_of : Def K mg "moves_of" s_moves_of ["places", "aims"]) (D_writes_of : Def K mg "writes_of" s_writes_of ["shelf", "moves"]) (D_place_of : Def K mg "place_of" s_place_of ["shelf", "key"]) (D_seat_of : Def K mg "seat_of" s_seat_of ["shelf", "key"]) (D_height_for : Def K mg "height_for" s_height_for ["bounds", "height", "shelf", "key"]) (D_put_writes : Def K mg "put_writes" s_put_writes ["bounds", "height", "shelf", "key", "amount"]) (D_evening_writes : Def K mg "evening_writes" s_evening_writes ["shelf", "stretch", "thing"]) (D_take_writes : Def K mg "take_writes" s_take_writes ["shelf", "key"]) (D__law_cell : Def K mg "_law_cell" s__law_cell ["script", "k"]) (D__law_spread : Def K mg "_law_spread" s__law_spread ["cell"]) (D__law_small : Def K mg "_law_small" s__law_small ["cell"]) (D__law_two : Def K mg "_law_two" s__law_two ["height"]) (D__law_rows : Def K mg "_law_rows" s__law_rows ["shelf"]) (D__law_sound : Def K mg "_law_sound" s__law_sound ["shelf"]) (D__law_key : Def K mg "_law_key" s__law_key ["keys", "cell", "crowd"]) (D__law_deed : Def K mg "_law_deed" s__law_deed ["bounds", "height", "shelf", "model", "cell", "crowd"]) (D__law_free : Def K mg "_law_free" s__law_free ["slab", "place", "thing", "last"]) (D__law_done : Def K mg "_law_done" s__law_done ["shelf", "writes", "rows", "due"]) (D_law : Def K mg "law" s_law ["script"]) : Callee P w K mg base 7 "law" ["script"] (spLawP K) := by
  have C_twofold := ok_twofold (P := P) (w := w) (base := base) D_twofold T
  have C_places_of := ok_places_of (P := P) (w := w) (base := base) D_places_of T (C_twofold.mono (by decide))
  have C_stretch_of := ok_stretch_of (P := P) (w := w) (base := base) D_stretch_of T (C_places_of.mono (by decide))
  have C_cap_of := ok_cap_of (P := P) (w := w) (base := base) D_cap_of T (C_twofold.mono (by decide))
  have C_held := ok_held (P := P) (w := w) (base := base) D_held T
  have C_done := ok_done (P := P) (w := w) (base := base) D_done T
  have C_targets := ok_targets (P := P) (w := w) (base := base) D_targets T
  have C_moves_of := ok_moves_of (P := P) (w := w) (base := base) D_moves_of T
  have C_writes_of := ok_writes_of (P := P) (w := w) (base := base) D_writes_of T (C_done.mono (by decide))
  have C_place_of := ok_place_of (P := P) (w := w) (base := base) D_place_of T
  have C_seat_of := ok_seat_of (P := P) (w := w) (base := base) D_seat_of T
  have C_height_for := ok_height_for (P := P) (w := w) (base := base) D_height_for T (C_cap_of.mono (by decide)) (C_held.mono (by decide)) (C_seat_of.mono (by decide)) (C_stretch_of.mono (by decide))
  have C_evening_writes := ok_evening_writes (P := P) (w := w) (base := base) D_evening_writes T (C_moves_of.mono (by decide)) (C_targets.mono (by decide)) (C_writes_of.mono (by decide))
  have C_put_writes := ok_put_writes (P := P) (w := w) (base := base) D_put_writes T (C_cap_of.mono (by decide)) (C_evening_writes.mono (by decide)) (C_height_for.mono (by decide)) (C_held.mono (by decide)) (C_place_of.mono (by decide)) (C_seat_of.mono (by decide)) (C_stretch_of.mono (by decide))
  have C_take_writes := ok_take_writes (P := P) (w := w) (base := base) D_take_writes T (C_place_of.mono (by decide))
  have C__law_cell := ok__law_cell (P := P) (w := w) (base := base) D__law_cell T
  have C__law_spread := ok__law_spread (P := P) (w := w) (base := base) D__law_spread T
  have C__law_small := ok__law_small (P := P) (w := w) (base := base) D__law_small T (C__law_spread.mono (by decide))
  have C__law_two := ok__law_two (P := P) (w := w) (base := base) D__law_two T
  have C__law_rows := ok__law_rows (P := P) (w := w) (base := base) D__law_rows T
  have C__law_sound := ok__law_sound (P := P) (w := w) (base := base) D__law_sound T (C__law_rows.mono (by decide))
  have C__law_key := ok__law_key (P := P) (w := w) (base := base) D__law_key T
  have C__law_deed := ok__law_deed (P := P) (w := w) (base := base) D__law_deed T (C__law_key.mono (by decide)) (C__law_two.mono (by decide)) (C_put_writes.mono (by decide)) (C_take_writes.mono (by decide))
  have C__law_free := ok__law_free (P := P) (w := w) (base := base) D__law_free T
  have C__law_done := ok__law_done (P := P) (w := w) (base := base) D__law_done T (C__law_free.mono (by decide)) (C__law_rows.mono (by decide)) (C__law_sound.mono (by decide))
  have C_law := ok_law (P := P) (w := w) (base := base) D_law T (C__law_cell.mono (by decide)) (C__law_deed.mono (by decide)) (C__law_done.mono (by decide)) (C__law_small.mono (by decide)) (C__law_spread.mono (by decide)) (C__law_two.mono (by decide))
  exact C_law.law hl
end
theorem ln1 {α : Type} {us : List α} (h : us.length = 1) : ∃ a0, us = [a0] := by
  obtain _ | ⟨_, us⟩ := us
  · cases h
  obtain _ | ⟨_, us⟩ := us
  · exact ⟨_, rfl⟩
  · cases h
theorem ln2 {α : Type} {us : List α} (h : us.length = 2) : ∃ a0 a1, us = [a0, a1] := by
  obtain _ | ⟨_, us⟩ := us
  · cases h
  obtain _ | ⟨_, us⟩ := us
  · cases h
  obtain _ | ⟨_, us⟩ := us
  · exact ⟨_, _, rfl⟩
  · cases h
theorem ln3 {α : Type} {us : List α} (h : us.length = 3) : ∃ a0 a1 a2, us = [a0, a1, a2] := by
  obtain _ | ⟨_, us⟩ := us
  · cases h
  obtain _ | ⟨_, us⟩ := us
  · cases h
  obtain _ | ⟨_, us⟩ := us
  · cases h
  obtain _ | ⟨_, us⟩ := us
  · exact ⟨_, _, _, rfl⟩
  · cases h
theorem ln4 {α : Type} {us : List α} (h : us.length = 4) : ∃ a0 a1 a2 a3, us = [a0, a1, a2, a3] := by
  obtain _ | ⟨_, us⟩ := us
  · cases h
  obtain _ | ⟨_, us⟩ := us
  · cases h
  obtain _ | ⟨_, us⟩ := us
  · cases h
  obtain _ | ⟨_, us⟩ := us
  · cases h
  obtain _ | ⟨_, us⟩ := us
  · exact ⟨_, _, _, _, rfl⟩
  · cases h
theorem ln5 {α : Type} {us : List α} (h : us.length = 5) : ∃ a0 a1 a2 a3 a4, us = [a0, a1, a2, a3, a4] := by
  obtain _ | ⟨_, us⟩ := us
  · cases h
  obtain _ | ⟨_, us⟩ := us
  · cases h
  obtain _ | ⟨_, us⟩ := us
  · cases h
  obtain _ | ⟨_, us⟩ := us
  · cases h
  obtain _ | ⟨_, us⟩ := us
  · cases h
  obtain _ | ⟨_, us⟩ := us
  · exact ⟨_, _, _, _, _, rfl⟩
  · cases h
theorem ln6 {α : Type} {us : List α} (h : us.length = 6) : ∃ a0 a1 a2 a3 a4 a5, us = [a0, a1, a2, a3, a4, a5] := by
  obtain _ | ⟨_, us⟩ := us
  · cases h
  obtain _ | ⟨_, us⟩ := us
  · cases h
  obtain _ | ⟨_, us⟩ := us
  · cases h
  obtain _ | ⟨_, us⟩ := us
  · cases h
  obtain _ | ⟨_, us⟩ := us
  · cases h
  obtain _ | ⟨_, us⟩ := us
  · cases h
  obtain _ | ⟨_, us⟩ := us
  · exact ⟨_, _, _, _, _, _, rfl⟩
  · cases h
theorem all_mk (hl : ∀ ns : List Int, ns.length ≤ 63 → m_law [.list (ns.map PyData.int)] = some (.bool true)) {l : PySem.W.OpenLaw} {w : World} {K : PySem.W.Frag} {h : Heap} {mg : Str → Option Value} {fa : Addr} (X : K.In h) (G : h.Ns mainGlobals mg) (hfa : mg "law" = some (.ref fa))
    (a0 : FnAt K "twofold" s_twofold)
    (a1 : FnAt K "places_of" s_places_of)
    (a2 : FnAt K "stretch_of" s_stretch_of)
    (a3 : FnAt K "cap_of" s_cap_of)
    (a4 : FnAt K "held" s_held)
    (a5 : FnAt K "done" s_done)
    (a6 : FnAt K "targets" s_targets)
    (a7 : FnAt K "moves_of" s_moves_of)
    (a8 : FnAt K "writes_of" s_writes_of)
    (a9 : FnAt K "place_of" s_place_of)
    (a10 : FnAt K "seat_of" s_seat_of)
    (a11 : FnAt K "height_for" s_height_for)
    (a12 : FnAt K "put_writes" s_put_writes)
    (a13 : FnAt K "evening_writes" s_evening_writes)
    (a14 : FnAt K "take_writes" s_take_writes)
    (a15 : FnAt K "_law_cell" s__law_cell)
    (a16 : FnAt K "_law_spread" s__law_spread)
    (a17 : FnAt K "_law_small" s__law_small)
    (a18 : FnAt K "_law_two" s__law_two)
    (a19 : FnAt K "_law_rows" s__law_rows)
    (a20 : FnAt K "_law_sound" s__law_sound)
    (a21 : FnAt K "_law_key" s__law_key)
    (a22 : FnAt K "_law_deed" s__law_deed)
    (a23 : FnAt K "_law_free" s__law_free)
    (a24 : FnAt K "_law_done" s__law_done)
    (a25 : FnAt K "law" s_law)
    (z_enumerate : PySem.W.nsIn K mainGlobals "enumerate" = some none)
    (z_int : PySem.W.nsIn K mainGlobals "int" = some none)
    (z_len : PySem.W.nsIn K mainGlobals "len" = some none)
    (z_list : PySem.W.nsIn K mainGlobals "list" = some none)
    (z_max : PySem.W.nsIn K mainGlobals "max" = some none)
    (z_min : PySem.W.nsIn K mainGlobals "min" = some none)
    (z_range : PySem.W.nsIn K mainGlobals "range" = some none)
    (z_reversed : PySem.W.nsIn K mainGlobals "reversed" = some none)
    (z_sorted : PySem.W.nsIn K mainGlobals "sorted" = some none)
    (z_zip : PySem.W.nsIn K mainGlobals "zip" = some none)
    : ∃ fd : FuncData, (∀ (s : Shared) (u : Value), BindsTo s fd ⟨[u], []⟩ [("script", u)]) ∧ ∀ base : Heap, K.In base → base.Ns mainGlobals mg → FnOk l.prog w K mg base CX0 7 fa fd ["script"] (spLawP K) := by
  have T : Txt K mg := ⟨PySem.W.mg_none_of X G z_enumerate, PySem.W.mg_none_of X G z_int, PySem.W.mg_none_of X G z_len, PySem.W.mg_none_of X G z_list, PySem.W.mg_none_of X G z_max, PySem.W.mg_none_of X G z_min, PySem.W.mg_none_of X G z_range, PySem.W.mg_none_of X G z_reversed, PySem.W.mg_none_of X G z_sorted, PySem.W.mg_none_of X G z_zip⟩
  have D_twofold := a0.d (ps := ["height"]) X G (fun _ _ _ _ _ _ us hl => by obtain ⟨_, rfl⟩ := ln1 hl; rfl)
  have D_places_of := a1.d (ps := ["bounds", "height"]) X G (fun _ _ _ _ _ _ us hl => by obtain ⟨_, _, rfl⟩ := ln2 hl; rfl)
  have D_stretch_of := a2.d (ps := ["bounds", "height", "place"]) X G (fun _ _ _ _ _ _ us hl => by obtain ⟨_, _, _, rfl⟩ := ln3 hl; rfl)
  have D_cap_of := a3.d (ps := ["bounds", "height"]) X G (fun _ _ _ _ _ _ us hl => by obtain ⟨_, _, rfl⟩ := ln2 hl; rfl)
  have D_held := a4.d (ps := ["shelf", "first", "behind"]) X G (fun _ _ _ _ _ _ us hl => by obtain ⟨_, _, _, rfl⟩ := ln3 hl; rfl)
  have D_done := a5.d (ps := ["shelf", "writes"]) X G (fun _ _ _ _ _ _ us hl => by obtain ⟨_, _, rfl⟩ := ln2 hl; rfl)
  have D_targets := a6.d (ps := ["many", "size"]) X G (fun _ _ _ _ _ _ us hl => by obtain ⟨_, _, rfl⟩ := ln2 hl; rfl)
  have D_moves_of := a7.d (ps := ["places", "aims"]) X G (fun _ _ _ _ _ _ us hl => by obtain ⟨_, _, rfl⟩ := ln2 hl; rfl)
  have D_writes_of := a8.d (ps := ["shelf", "moves"]) X G (fun _ _ _ _ _ _ us hl => by obtain ⟨_, _, rfl⟩ := ln2 hl; rfl)
  have D_place_of := a9.d (ps := ["shelf", "key"]) X G (fun _ _ _ _ _ _ us hl => by obtain ⟨_, _, rfl⟩ := ln2 hl; rfl)
  have D_seat_of := a10.d (ps := ["shelf", "key"]) X G (fun _ _ _ _ _ _ us hl => by obtain ⟨_, _, rfl⟩ := ln2 hl; rfl)
  have D_height_for := a11.d (ps := ["bounds", "height", "shelf", "key"]) X G (fun _ _ _ _ _ _ us hl => by obtain ⟨_, _, _, _, rfl⟩ := ln4 hl; rfl)
  have D_put_writes := a12.d (ps := ["bounds", "height", "shelf", "key", "amount"]) X G (fun _ _ _ _ _ _ us hl => by obtain ⟨_, _, _, _, _, rfl⟩ := ln5 hl; rfl)
  have D_evening_writes := a13.d (ps := ["shelf", "stretch", "thing"]) X G (fun _ _ _ _ _ _ us hl => by obtain ⟨_, _, _, rfl⟩ := ln3 hl; rfl)
  have D_take_writes := a14.d (ps := ["shelf", "key"]) X G (fun _ _ _ _ _ _ us hl => by obtain ⟨_, _, rfl⟩ := ln2 hl; rfl)
  have D__law_cell := a15.d (ps := ["script", "k"]) X G (fun _ _ _ _ _ _ us hl => by obtain ⟨_, _, rfl⟩ := ln2 hl; rfl)
  have D__law_spread := a16.d (ps := ["cell"]) X G (fun _ _ _ _ _ _ us hl => by obtain ⟨_, rfl⟩ := ln1 hl; rfl)
  have D__law_small := a17.d (ps := ["cell"]) X G (fun _ _ _ _ _ _ us hl => by obtain ⟨_, rfl⟩ := ln1 hl; rfl)
  have D__law_two := a18.d (ps := ["height"]) X G (fun _ _ _ _ _ _ us hl => by obtain ⟨_, rfl⟩ := ln1 hl; rfl)
  have D__law_rows := a19.d (ps := ["shelf"]) X G (fun _ _ _ _ _ _ us hl => by obtain ⟨_, rfl⟩ := ln1 hl; rfl)
  have D__law_sound := a20.d (ps := ["shelf"]) X G (fun _ _ _ _ _ _ us hl => by obtain ⟨_, rfl⟩ := ln1 hl; rfl)
  have D__law_key := a21.d (ps := ["keys", "cell", "crowd"]) X G (fun _ _ _ _ _ _ us hl => by obtain ⟨_, _, _, rfl⟩ := ln3 hl; rfl)
  have D__law_deed := a22.d (ps := ["bounds", "height", "shelf", "model", "cell", "crowd"]) X G (fun _ _ _ _ _ _ us hl => by obtain ⟨_, _, _, _, _, _, rfl⟩ := ln6 hl; rfl)
  have D__law_free := a23.d (ps := ["slab", "place", "thing", "last"]) X G (fun _ _ _ _ _ _ us hl => by obtain ⟨_, _, _, _, rfl⟩ := ln4 hl; rfl)
  have D__law_done := a24.d (ps := ["shelf", "writes", "rows", "due"]) X G (fun _ _ _ _ _ _ us hl => by obtain ⟨_, _, _, _, rfl⟩ := ln4 hl; rfl)
  have D_law := a25.d (ps := ["script"]) X G (fun _ _ _ _ _ _ us hl => by obtain ⟨_, rfl⟩ := ln1 hl; rfl)
  exact law_mk D_law hfa fun base _ _ => chain T hl D_twofold D_places_of D_stretch_of D_cap_of D_held D_done D_targets D_moves_of D_writes_of D_place_of D_seat_of D_height_for D_put_writes D_evening_writes D_take_writes D__law_cell D__law_spread D__law_small D__law_two D__law_rows D__law_sound D__law_key D__law_deed D__law_free D__law_done D_law
end S16
set_option maxHeartbeats 4000000
set_option hygiene false
local macro_rules | `(tactic| walk_at "pu") => `(tactic| simp only [L2.pSetT, L2.sCons, L2.sNil, L2.ioHere, L2.ioCons, L2.mask_trX, L2.view_trL, L2.view_trD, L2.asTr_tr, L2.asLc_lst, L2.bT, L2.bAnd, L2.pSq, L2.pSet, L2.vS, L2.vF, L2.vL, L2.vLF, L2.vLS, L2.vSL, L2.pOp, L2.pUn, L2.pVar, L2.pCon, L2.pTest, L2.pNotT, L2.pAndT, L2.pOrT, L2.pTrue, L2.pAnd, L2.pOr, L2.pNot, L2.pIf, L2.pChain, L2.pNil, L2.pCons, L2.pTup, L2.pLst, L2.pOfL, L2.pCall, L2.pCallL, L2.pIsi, L2.pRet, L2.pRetL, L2.pRetO, L2.pRetN, L2.pIfS, L2.pNx, L2.pDrop, L2.pApp, L2.pSetI, L2.pClear, L2.pSl, L2.pNoPart, L2.pPart, L2.pCat, L2.pItL, L2.pItT, L2.pAsg, L2.pRel, L2.full, L2.masked, L2.startP_eq,
  List.map_cons, List.map_nil, List.cons_append, List.nil_append, List.length_cons, List.length_nil, List.length_map, Nat.reduceAdd, Nat.reduceSub, Nat.zero_add, List.replicate_succ, List.replicate_zero, List.set_cons_succ, List.set_cons_zero, L2.getI0, L2.getIS, List.getElem?_cons_zero, List.getElem?_cons_succ, Option.join_some,
  L2.view_sh, L2.view_ow, L2.view_no, L2.mask_sh, L2.mask_ow, L2.mask_no, L2.bnd_some, L2.bnd_none, Option.map_some, L2.asB_bool, L2.asI_int, L2.asL_list, L2.asT_tup, L2.asSh_sh, L2.asOw_ow, L2.dAdd_int, L2.dSub_int, L2.dMul_int, L2.dMod_int, L2.dDiv_int, L2.dPow_ten, L2.tenP_pos, L2.dLt_int, L2.dLe_int, L2.dGt_int, L2.dGe_int, L2.dNeg_int, L2.dEq_int, L2.dNe_int, L2.dIx_list, L2.dIx_tup, L2.atI_zero, L2.atI_one, L2.atI_two,
  L2.gLen_list, L2.gLen_tup, L2.gList_list, L2.gList_tup, L2.gEnum_list, L2.gZip_list, L2.gMax_int, L2.gMin_int, L2.gInt_bool, L2.gInt_int, L2.flatD_int, L2.flatD_bool, L2.flatD_none, L2.flatD_tup, L2.flatAll_nil, L2.flatAll_cons, Bool.and_self, Bool.true_and, L2.ite_true', L2.ite_false', if_true, if_false, Bool.not_true, Bool.not_false, Bool.false_eq_true, L2.small_def, L2.fits_def, decide_true, decide_false, Bool.or_true, Bool.true_or, Bool.or_self, Bool.or_false, Bool.false_or, Bool.and_true, Bool.and_false, Bool.false_and, and_self, and_true, true_and, not_true_eq_false, not_false_eq_true, true_or, or_true, L2.dIsN, L2.dNotN, L2.isNon_none, L2.tyD_list, L2.tyD_tup, L2.tyD_bool, L2.tyD_int, L2.tyD_none, L2.subT_refl, L2.subT_ib, L2.subT_bi, eq_self, L2.dEq_ints_nil, L2.dEq_L_nil, L2.isNon_int, L2.isNon_list, L2.isNon_tup, L2.dEq_T, L2.dNe_T, L2.dNe_N, L2.dEq_N, L2.dEq_L, L2.dNe_L, L2.flat_T, L2.flat_Ts, Int.reduceLT, Int.reduceLE, Nat.reduceLT, Nat.reduceLeDiff, Int.reduceNeg, Int.reduceAdd, Int.reduceSub, Int.reduceMul, Nat.lt_irrefl, *])
set_option hygiene true
namespace S16
open PySem L2 LKb LL
theorem count_things (v : Pr) : ∀ s : List Thing, s.countP (fun e => decide (e = some v)) = (things s).countP (fun e => decide (e = v))
  | [] => rfl
  | none :: r => by
    rw [List.countP_cons_of_neg (by simp)]
    exact count_things v r
  | some x :: r => by
    show _ = (x :: things r).countP _
    rw [List.countP_cons, List.countP_cons, count_things v r]
    congr 1
    by_cases h : x = v <;> simp [h]
theorem count_two {s : List Thing} {t : Tr} (m : IsMv s t) (h : RiseP (things s)) : (s.set t.2.1 (some t.2.2)).countP (fun e => decide (e = some t.2.2)) = 2 := by
  obtain ⟨L, R, m⟩ := m
  have hs := posT_things s 0
  rw [m.eq, List.map_append, List.map_cons] at hs
  have h1 : things (s.set t.2.1 (some t.2.2)) = L.map (·.2) ++ t.2.2 :: t.2.2 :: R.map (·.2) := by
    rw [← posT_things _ 0, m.first]
    split <;> simp
  have hr : RiseP (L.map (·.2) ++ t.2.2 :: R.map (·.2)) := by rw [hs]; exact h
  unfold RiseP at hr
  rw [List.map_append, List.map_cons, List.pairwise_append, List.pairwise_cons] at hr
  obtain ⟨_, ⟨hb, _⟩, hc⟩ := hr
  rw [count_things, h1, List.countP_append, List.countP_cons, List.countP_cons]
  have z1 : (L.map (·.2)).countP (fun e => decide (e = t.2.2)) = 0 := by
    rw [List.countP_eq_zero]
    intro e he
    have := hc e.1 (List.mem_map_of_mem he) t.2.2.1 (.head _)
    simp
    rintro rfl
    omega
  have z2 : (R.map (·.2)).countP (fun e => decide (e = t.2.2)) = 0 := by
    rw [List.countP_eq_zero]
    intro e he
    have := hb e.1 (List.mem_map_of_mem he)
    simp
    rintro rfl
    omega
  rw [z1, z2]
  simp
theorem count_enc (s : List Thing) (x : Thing) : gCount (.list (s.map encD)) (encD x) = some (.int ((s.countP (fun e => decide (e = x)) : Nat) : Int)) := by
  unfold gCount
  have h1 : shapedAll (s.map encD) = true := by
    unfold shapedAll
    rw [List.all_eq_true]
    intro d hd
    obtain ⟨e, _, rfl⟩ := List.mem_map.mp hd
    exact enc_T.shaped (by decide) e
  show (if shapedAll (s.map encD) = true ∧ SeqAt.shaped (encD x) = true then _ else none) = _
  rw [if_pos ⟨h1, enc_T.shaped (by decide) x⟩, List.countP_map]
  congr 4
  funext e
  exact enc_T.eqv e x
theorem rangeD_cons (lo : Int) (n : Nat) : rangeD lo (n + 1) = .int lo :: rangeD (lo + 1) n := by
  unfold rangeD
  rw [List.range_succ_eq_map, List.map_cons, List.map_map]
  congr 1
  · congr 1; simp
  · refine List.map_congr_left fun i _ => ?_
    show PyData.int (lo + ((i + 1 : Nat) : Int)) = PyData.int (lo + 1 + (i : Int))
    congr 1
    omega
theorem encP_flat : ∀ X : List Pr, flatAll (X.map encP) = true
  | [] => rfl
  | x :: X => by
    show (flatD (.tuple [.int x.1, .int x.2]) && flatAll (X.map encP)) = true
    rw [encP_flat X]
    rfl
theorem free_lay {s : List Thing} {p : Nat} (v : Pr) (b : Bool) (hp : p < s.length) (h : s.getD p none = none ∨ ∃ a, s.getD p none = some (v.1, a)) : m__law_free [.list (s.map encD), .int (p : Int), encD (some v), .bool b] = some (.bool true) := by
  have hat := at_ts s hp
  have hv : ¬ some v = none := by simp
  have e1 : dIx (encD (some v)) (.int 0) = some (.int v.1) := rfl
  refine runF_of (o := .rt (.bool true)) rfl ?_ rfl
  unfold b__law_free
  refine sq_nx (ρ' := [.sh (.list (s.map encD)), .sh (.int (p : Int)), .sh (encD (some v)), .sh (.bool b)]) (by clear h hat e1 hp; walk_at "pu") ?_
  rcases h with h | ⟨a, h⟩
  · rw [h] at hat
    clear h e1 hv hp
    walk_at "pu"
  · rw [h] at hat
    have e2 : dIx (encD (some (v.1, a))) (.int 0) = some (.int v.1) := rfl
    have hv2 : ¬ some (v.1, a) = none := by simp
    clear h hv hp
    walk_at "pu"
theorem free_clear {s : List Thing} {p : Nat} (b : Bool) (hp : p < s.length) (h : b = true ∨ s.countP (fun e => decide (e = s.getD p none)) = 2) : m__law_free [.list (s.map encD), .int (p : Int), encD none, .bool b] = some (.bool true) := by
  have hat := at_ts s hp
  refine runF_of (o := .rt (.bool true)) rfl ?_ rfl
  unfold b__law_free
  refine sq_rt (if_tt (by clear h hat hp; walk_at "pu") ?_)
  rcases h with rfl | h
  · clear hat hp
    walk_at "pu"
  · have hcnt := count_enc s (s.getD p none)
    rw [h] at hcnt
    have hcnt' : gCount (.list (s.map encD)) (encD (s.getD p none)) = some (.int 2) := hcnt
    clear hcnt h hp
    generalize s.getD p none = y at *
    cases b
    · walk_at "pu"
    · clear hat hcnt'
      walk_at "pu"
theorem step_do (a : Addr) (s u : List Thing) {XX : List Pr} (U : D) (W : List D) {c p : Nat} {x : Thing} (s5 s6 s7 : Sl) (hW : atI W (c : Int) = some (.tuple [.int (p : Int), encD x])) (hl : s.length ≤ 320) (hp : p < s.length) (hu : u = s.set p x)
    (hfree : m__law_free [.list (s.map encD), .int (p : Int), encD x, .bool (decide ((W.length : Int) = 1))] = some (.bool true))
    (hrest : ((c : Int) < (W.length : Int) - 1 ∧ dd (things u) = XX ∧ RiseP XX ∧ (things u).length ≤ XX.length + 1) ∨ ¬ (c : Int) < (W.length : Int) - 1) :
    l__law_done_1 [.tr a (.lst (s.map encD)), .sh (.list W), .sh (.list (XX.map encP)), .sh U, .sh (.int (c : Int)), s5, s6, s7] = some (.nx [.tr a (.lst (u.map encD)), .sh (.list W), .sh (.list (XX.map encP)), .sh U, .sh (.int (c : Int)), .sh (.int (p : Int)), .sh (encD x), s7]) := by
  have hul : u.length = s.length := by rw [hu]; simp
  have hset : (s.map encD).set p (encD x) = u.map encD := by rw [hu, List.map_set]
  have hix := ixN_nat (n := s.length) (j := p) hp
  unfold l__law_done_1
  refine sq_nx (ρ' := [.tr a (.lst (s.map encD)), .sh (.list W), .sh (.list (XX.map encP)), .sh U, .sh (.int (c : Int)), .sh (.int (p : Int)), .sh (encD x), s7]) (by clear hrest hu hset hix hul hl hfree; walk_at "pu"; rfl) ?_
  refine sq_nx (ρ' := [.tr a (.lst (s.map encD)), .sh (.list W), .sh (.list (XX.map encP)), .sh U, .sh (.int (c : Int)), .sh (.int (p : Int)), .sh (encD x), s7]) (by clear hrest hu hset hix hul hl hW; walk_at "pu") ?_
  refine sq_nx (ρ' := [.tr a (.lst (u.map encD)), .sh (.list W), .sh (.list (XX.map encP)), .sh U, .sh (.int (c : Int)), .sh (.int (p : Int)), .sh (encD x), s7]) (by clear hrest hu hul hl hW hfree; walk_at "pu") ?_
  rcases hrest with ⟨hc, hrows, hR, hfew⟩ | hc
  · have h1 := rows_law u (by omega)
    have h2 := sound_law u (by omega)
    rw [hrows] at h1 h2
    rw [decide_eq_true hR, decide_eq_true hfew, Bool.true_and] at h2
    have hpl := dNe_PL XX XX
    rw [decide_eq_true rfl, Bool.not_true] at hpl
    clear hrows hR hfew hu hul hl hset hW hfree hix
    walk_at "pu"
  · clear hu hul hl hset hW hfree hix
    walk_at "pu"
theorem done_end {a : Addr} {s u : List Thing} {R W : List D} {V : List Pr} {s4 s5 s6 : Sl} (hW : W.length ≤ 1000) (hu : u.length ≤ 320) (hV : things u = V)
    (hf : forP (bs1 4) l__law_done_1 (rangeD 0 W.length) [.tr a (.lst (s.map encD)), .sh (.list W), .sh (.list R), .sh (.list (V.map encP)), .no, .no, .no, .no] = some (.nx [.tr a (.lst (u.map encD)), .sh (.list W), .sh (.list R), .sh (.list (V.map encP)), s4, s5, s6, .no])) :
    m__law_done a (.lst (s.map encD)) [] [.list W, .list R, .list (V.map encP)] = some (.bool true, .lst (u.map encD)) := by
  have hrg := gRange1_int ((W.length : Nat) : Int) ⟨by omega, by omega⟩
  rw [Int.toNat_natCast] at hrg
  have hth : ∀ ρ : PEnv, pItL (pVar 0) ρ = some (u.map encD) → pComp (pItL (pVar 0)) (bd1 0) (pTest (pOp dNe (pVar 0) (pTup pNil))) (pVar 0) 1 [] ρ = some (V.map encP) := fun ρ h => by
    have h2 := things_comp u (by omega) (fi := pItL (pVar 0)) (ρ := ρ) h
    rw [filter_things, hV] at h2
    exact h2
  have hfl := encP_flat V
  have hpl := dEq_PL V V
  rw [decide_eq_true rfl] at hpl
  refine runT_of (ρ := [.tr a (.lst (u.map encD)), .sh (.list W), .sh (.list R), .sh (.list (V.map encP)), s4, s5, s6, .sh (.list (V.map encP))]) rfl rfl ?_ rfl
  show b__law_done [.tr a (.lst (s.map encD)), .sh (.list W), .sh (.list R), .sh (.list (V.map encP)), .no, .no, .no, .no] = _
  unfold b__law_done
  refine sq_nx ((for_eq (items := rangeD 0 W.length) (by clear hf hth hfl hpl hV hu; walk_at "pu")).trans hf) ?_
  clear hf hV hW hrg
  refine sq_nx (ρ' := [.tr a (.lst (u.map encD)), .sh (.list W), .sh (.list R), .sh (.list (V.map encP)), s4, s5, s6, .sh (.list (V.map encP))]) ?_ ?_
  · refine set_of ?_
    unfold vLS
    rw [hth _ rfl]
    show (if flatAll (V.map encP) = true then _ else _) = _
    rw [if_pos hfl]
  · refine retOb_of ?_
    clear hth hfl hu
    walk_at "pu"
theorem walk_run (a : Addr) {XX : List Pr} (U : D) (hR : RiseP XX) (q : Nat) (v : Pr) {s s' : List Thing} {ms : List Tr} (r : Run IsMv s ms s') : ∀ (pre W : List D), W = pre ++ ((wsOf ms).map encW ++ [encW (q, some v)]) → s'[q]? = some none → things s = XX → s.length ≤ 320 → ∀ s4 s5 s6, ∃ s4' s5' s6',
    forP (bs1 4) l__law_done_1 (rangeD (pre.length : Int) (2 * ms.length + 1)) [.tr a (.lst (s.map encD)), .sh (.list W), .sh (.list (XX.map encP)), .sh U, s4, s5, s6, .no] = some (.nx [.tr a (.lst ((s'.set q (some v)).map encD)), .sh (.list W), .sh (.list (XX.map encP)), .sh U, s4', s5', s6', .no]) := by
  induction r with
  | nil s =>
    intro pre W hW hfree hs hl s4 s5 s6
    have hat : atI W (pre.length : Int) = some (.tuple [.int (q : Int), encD (some v)]) := by
      rw [atI_ofNat, hW, List.getElem?_append_right (Nat.le_refl _), Nat.sub_self]
      rfl
    have hlt : q < s.length := by
      rcases Nat.lt_or_ge q s.length with h | h
      · exact h
      · rw [List.getElem?_eq_none h] at hfree
        cases hfree
    have hWl : ¬ (pre.length : Int) < (W.length : Int) - 1 := by
      rw [hW]
      simp [wsOf]
    have w1 := step_do a s (s.set q (some v)) (XX := XX) U W (c := pre.length) s5 s6 .no hat hl hlt rfl (free_lay v _ hlt (.inl (by rw [List.getD, hfree]; rfl))) (.inr hWl)
    refine ⟨.sh (.int (pre.length : Int)), .sh (.int (q : Int)), .sh (encD (some v)), ?_⟩
    rw [show 2 * ([] : List Tr).length + 1 = 0 + 1 from rfl, rangeD_cons, forP_nx rfl w1]
    rfl
  | @cons s s' t l p r ih =>
    intro pre W hW hfree hs hl s4 s5 s6
    have ok := p.ok (by rw [hs]; exact hR)
    have hc : t.1 < s.length := by
      rcases Nat.lt_or_ge t.1 s.length with h | h
      · exact h
      · have := ok.here
        rw [List.getElem?_eq_none h] at this
        cases this
    have hne : t.2.1 ≠ t.1 := by
      intro e
      have h1 := ok.free
      have h2 := ok.here
      rw [e, h2] at h1
      cases h1
    have hW' : W = pre ++ (encW (t.2.1, some t.2.2) :: encW (t.1, none) :: ((wsOf l).map encW ++ [encW (q, some v)])) := hW
    have hat1 : atI W (pre.length : Int) = some (.tuple [.int (t.2.1 : Int), encD (some t.2.2)]) := by
      rw [atI_ofNat, hW', List.getElem?_append_right (Nat.le_refl _), Nat.sub_self]
      rfl
    have hat2 : atI W ((pre.length + 1 : Nat) : Int) = some (.tuple [.int (t.1 : Int), encD none]) := by
      rw [atI_ofNat, hW', List.getElem?_append_right (by omega), show pre.length + 1 - pre.length = 1 by omega]
      rfl
    have hWl : W.length = pre.length + (2 * l.length + 3) := by
      rw [hW']
      simp [wsOf_len]
    have w1 := step_do a s (s.set t.2.1 (some t.2.2)) (XX := XX) U W (c := pre.length) s5 s6 .no hat1 hl ok.lt rfl (free_lay _ _ ok.lt (.inl (by rw [List.getD, ok.free]; rfl))) (.inl ⟨by omega, ok.mid.trans hs, hR, by rw [ok.few, hs]; exact Nat.le_refl _⟩)
    have hg : (s.set t.2.1 (some t.2.2)).getD t.1 none = some t.2.2 := by
      rw [List.getD_eq_getElem?_getD, List.getElem?_set_ne hne, ok.here]
      rfl
    have w2 := step_do a (s.set t.2.1 (some t.2.2)) (mvW s t) (XX := XX) U W (c := pre.length + 1) (x := none) (.sh (.int (t.2.1 : Int))) (.sh (encD (some t.2.2))) .no hat2 (by simpa using hl) (by simpa using hc) rfl (free_clear _ (by simpa using hc) (.inr (by rw [hg]; exact count_two p (by rw [hs]; exact hR)))) (.inl ⟨by omega, by rw [ok.fin, hs]; exact dd_rise hR, hR, by rw [ok.fin, hs]; exact Nat.le_succ _⟩)
    obtain ⟨s4', s5', s6', h⟩ := ih (pre ++ [encW (t.2.1, some t.2.2), encW (t.1, none)]) W (by rw [hW']; simp) hfree (ok.fin.trans hs) (by rw [mvW_length]; exact hl) (.sh (.int ((pre.length + 1 : Nat) : Int))) (.sh (.int (t.1 : Int))) (.sh (encD none))
    refine ⟨s4', s5', s6', ?_⟩
    rw [show 2 * (t :: l).length + 1 = (2 * l.length + 1) + 1 + 1 by simp; omega, rangeD_cons, rangeD_cons, forP_nx rfl w1]
    rw [forP_nx (ρ1 := [.tr a (.lst ((s.set t.2.1 (some t.2.2)).map encD)), .sh (.list W), .sh (.list (XX.map encP)), .sh U, .sh (.int ((pre.length + 1 : Nat) : Int)), .sh (.int (t.2.1 : Int)), .sh (encD (some t.2.2)), .no]) (by rw [Int.natCast_add]; rfl) w2]
    rw [show (pre.length : Int) + 1 + 1 = ((pre ++ [encW (t.2.1, some t.2.2), encW (t.1, none)]).length : Int) by simp; omega]
    exact h
theorem done_put (a : Addr) {ts s' : List Thing} {ms : List Tr} {q : Nat} {v : Pr} (r : Run IsMv ts ms s') (hR : RiseP (things ts)) (hl : ts.length ≤ 320) (hs' : s'.length = ts.length) (hm : ms.length ≤ 320) (hfree : s'[q]? = some none) :
    m__law_done a (.lst (ts.map encD)) [] [.list ((wsOf ms ++ [(q, some v)]).map encW), .list ((things ts).map encP), .list ((things (s'.set q (some v))).map encP)] = some (.bool true, .lst ((s'.set q (some v)).map encD)) := by
  obtain ⟨s4, s5, s6, h⟩ := walk_run a (XX := things ts) (.list ((things (s'.set q (some v))).map encP)) hR q v r [] ((wsOf ms ++ [(q, some v)]).map encW) (by rw [List.map_append]; rfl) hfree rfl hl .no .no .no
  have hWl : ((wsOf ms ++ [(q, some v)]).map encW).length = 2 * ms.length + 1 := by simp [wsOf_len]
  refine done_end (u := s'.set q (some v)) (s4 := s4) (s5 := s5) (s6 := s6) (by omega) (by rw [List.length_set]; omega) rfl ?_
  rw [hWl]
  exact h
theorem done_one (a : Addr) {ts : List Thing} {p : Nat} {x : Thing} (R : List Pr) (hl : ts.length ≤ 320) (hp : p < ts.length) (hfree : m__law_free [.list (ts.map encD), .int (p : Int), encD x, .bool true] = some (.bool true)) :
    m__law_done a (.lst (ts.map encD)) [] [.list ([(p, x)].map encW), .list (R.map encP), .list ((things (ts.set p x)).map encP)] = some (.bool true, .lst ((ts.set p x).map encD)) := by
  have w1 := step_do a ts (ts.set p x) (XX := R) (.list ((things (ts.set p x)).map encP)) ([(p, x)].map encW) (c := 0) (p := p) (x := x) .no .no .no rfl hl hp rfl hfree (.inr (by show ¬ (0 : Int) < 1 - 1; decide))
  refine done_end (u := ts.set p x) (s4 := .sh (.int 0)) (s5 := .sh (.int (p : Int))) (s6 := .sh (encD x)) (by show 1 ≤ 1000; decide) (by rw [List.length_set]; exact hl) rfl ?_
  show forP (bs1 4) l__law_done_1 (rangeD 0 (0 + 1)) _ = _
  rw [rangeD_cons, forP_nx rfl w1]
  rfl
theorem done_none (a : Addr) {ts : List Thing} (R : List D) (hl : ts.length ≤ 320) : m__law_done a (.lst (ts.map encD)) [] [.list [], .list R, .list ((things ts).map encP)] = some (.bool true, .lst (ts.map encD)) :=
  done_end (u := ts) (s4 := .no) (s5 := .no) (s6 := .no) (by show 0 ≤ 1000; decide) hl rfl rfl
section
variable (s0 s1 s2 s3 s4 s5 s6 s7 s8 : Sl)
theorem q_way (c : Int) : vS (pOp dMod (pVar 4) (pCon (.int 10))) [s0, s1, s2, s3, .sh (.int c), s5, s6, s7, s8] = some (.sh (.int (c % 10))) := by walk_at "pu"
theorem q_test (ks : List Int) (y : Int) : pAndT (pTest (pOp dLt (pVar 7) (pCon (.int 3)))) (pTest (pOp dNe (pVar 6) (pOfL (pLst pNil)))) (full [s0, s1, s2, s3, s4, s5, .sh (.list (ks.map PyData.int)), .sh (.int y), s8]) = some (decide (y < 3 ∧ ¬ ks = [])) := by
  have hne : dNe (.list (ks.map PyData.int)) (.list []) = some (.bool (!decide (ks = []))) := (enc_int.list).dNe (by decide) ks []
  by_cases h1 : y < 3
  · by_cases h2 : ks = []
    · subst h2
      have hne' : dNe (.list []) (.list []) = some (.bool false) := hne
      clear hne
      walk_at "pu"
    · walk_at "pu"
  · clear hne
    rw [decide_eq_false (show ¬ (y < 3 ∧ ¬ ks = []) from fun z => h1 z.1)]
    walk_at "pu"
theorem q_key (ks : List Int) (k c : Int) (h0 : 0 < (ks.length : Int)) (h1 : (ks.length : Int) < 1073741824) (hat : atI (ks.map PyData.int) (c / 10 % (ks.length : Int)) = some (.int k)) : vS (pOp dIx (pVar 6) (pOp dMod (pOp dDiv (pVar 4) (pCon (.int 10))) (pCall gLen (pCons (pVar 6) pNil)))) [s0, s1, s2, s3, .sh (.int c), s5, .sh (.list (ks.map PyData.int)), s7, s8] = some (.sh (.int k)) := by walk_at "pu"
theorem q_zero (y : Int) : pTest (pOp dEq (pVar 7) (pCon (.int 0))) (full [s0, s1, s2, s3, s4, s5, s6, .sh (.int y), s8]) = some (decide (y = 0)) := by walk_at "pu"
theorem q_worth (c : Int) : vS (pOp dMod (pOp dDiv (pVar 4) (pCon (.int 10))) (pOp dPow (pCon (.int 10)) (pCon (.int 50)))) [s0, s1, s2, s3, .sh (.int c), s5, s6, s7, s8] = some (.sh (.int (c / 10 % tenP 50))) := by walk_at "pu"
theorem q_args (d0 d1 d2 : D) (k b : Int) (h : vDGet 3 (pVar 8) [.sh d0, .sh d1, .sh d2, s3, s4, s5, s6, s7, .sh (.int k)] = some (.sh (.int b))) : sCons (vS (pVar 0)) (sCons (vS (pVar 1)) (sCons (vS (pVar 2)) (sCons (vS (pVar 8)) (sCons (vDGet 3 (pVar 8)) sNil)))) [.sh d0, .sh d1, .sh d2, s3, s4, s5, s6, s7, .sh (.int k)] = some [d0, d1, d2, .int k, .int b] := by walk_at "pu"
theorem q_take (d2 : D) (k : Int) (W : List D) (h : m_take_writes [d2, .int k] = some W) : vSL (pCallL m_take_writes (pCons (pVar 2) (pCons (pVar 8) pNil))) [s0, s1, .sh d2, s3, s4, s5, s6, s7, .sh (.int k)] = some (.sh (.list W)) := by walk_at "pu"
theorem q_drawn (d6 : D) (c k : Int) (cr : Bool) (h : m__law_key [d6, .int (c / 10), .bool cr] = some (.int k)) : vS (pCall m__law_key (pCons (pVar 6) (pCons (pOp dDiv (pVar 4) (pCon (.int 10))) (pCons (pVar 5) pNil)))) [s0, s1, s2, s3, .sh (.int c), .sh (.bool cr), .sh d6, s7, s8] = some (.sh (.int k)) := by walk_at "pu"
theorem q_cap (t : Int) (w st hh : Nat) (ks : List Int) (h4 : hh ≤ 4) (w20 : w ≤ 20) (st20 : st ≤ 20) : pTest (pOp dGe (pCall gLen (pCons (pVar 6) pNil)) (pOp dMul (pCall m__law_two (pCons (pVar 1) pNil)) (pOp dSub (pOp dIx (pVar 0) (pCon (.int 1))) (pOp dMul (pVar 1) (pOp dIx (pVar 0) (pCon (.int 2))))))) (full [.sh (.tuple [.int t, .int (w : Int), .int (st : Int)]), .sh (.int (hh : Int)), s2, s3, s4, s5, .sh (.list (ks.map PyData.int)), s7, s8]) = some (decide ((2 : Int) ^ hh * ((w : Int) - hh * st) ≤ (ks.length : Int))) := by
  have htwo := two_eq (h := (hh : Int)) (by omega) (by omega)
  have hT : tw (hh : Int) = 2 ^ hh := by rw [tw_nat]; exact Int.natCast_pow 2 hh
  rw [hT] at htwo
  have hTs := p2_small h4
  have hss : -18446744073709551616 < (hh : Int) ∧ (hh : Int) < 18446744073709551616 := by omega
  have hws : -18446744073709551616 < (w : Int) ∧ (w : Int) < 18446744073709551616 := by omega
  have hsts : -18446744073709551616 < (st : Int) ∧ (st : Int) < 18446744073709551616 := by omega
  generalize (2 : Int) ^ hh = P at *
  clear hT h4 w20 st20
  walk_at "pu"
theorem q_new (c b : Int) (h : atI ([.int (c / 11 % tenP 50 - 3), .int 0, .int 1, .int (-1)] : List D) (c / 17 % 4) = some (.int b)) : vS (pOp dIx (pOfL (pLst (pCons (pOp dSub (pOp dMod (pOp dDiv (pVar 4) (pCon (.int 11))) (pOp dPow (pCon (.int 10)) (pCon (.int 50)))) (pCon (.int 3))) (pCons (pCon (.int 0)) (pCons (pCon (.int 1)) (pCons (pUn dNeg (pCon (.int 1))) pNil)))))) (pOp dMod (pOp dDiv (pVar 4) (pCon (.int 17))) (pCon (.int 4)))) [s0, s1, s2, s3, .sh (.int c), s5, s6, s7, s8] = some (.sh (.int b)) := by walk_at "pu"
end
theorem things_at : ∀ (ts : List Thing) (p : Nat) (x : Pr), ts.getD p none = some x → ∃ A B, things ts = A ++ x :: B ∧ (∀ y, things (ts.set p (some y)) = A ++ y :: B) ∧ things (ts.set p none) = A ++ B
  | [], p, x, h => by simp at h
  | z :: ts, 0, x, h => by
    have h : z = some x := by simpa using h
    subst h
    exact ⟨[], things ts, rfl, fun y => rfl, rfl⟩
  | z :: ts, p + 1, x, h => by
    obtain ⟨A, B, h1, h2, h3⟩ := things_at ts p x (by simpa using h)
    cases z with
    | none => exact ⟨A, B, h1, h2, h3⟩
    | some z => exact ⟨z :: A, B, by show z :: things ts = _; rw [h1]; rfl, fun y => by show z :: things (ts.set p (some y)) = _; rw [h2]; rfl, by show z :: things (ts.set p none) = _; rw [h3]; rfl⟩
theorem rise_parts {A B : List Pr} {k a : Int} (h : RiseP (A ++ (k, a) :: B)) : ∀ q, q ∈ A ∨ q ∈ B → q.1 ≠ k := by
  unfold RiseP at h
  rw [List.map_append, List.map_cons, List.pairwise_append, List.pairwise_cons] at h
  obtain ⟨_, ⟨hb, _⟩, hc⟩ := h
  rintro q (hq | hq) e
  · have := hc q.1 (List.mem_map_of_mem hq) k List.mem_cons_self
    omega
  · have := hb q.1 (List.mem_map_of_mem hq)
    omega
structure Sh (w hh : Nat) (ts : List Thing) (P : List Pr) : Prop where
  rise : Rises ts
  len : ts.length = 2 ^ hh * w
  nod : (P.map (·.1)).Nodup
  mem : ∀ q, q ∈ things ts ↔ q ∈ P
theorem Sh.sort {w hh : Nat} {ts : List Thing} {P : List Pr} (h : Sh w hh ts P) : sortI P = things ts := by
  refine sortI_eq h.nod ?_ h.mem
  have := (rises_things ts).mp h.rise
  exact List.pairwise_map.mp this
theorem Sh.keys {w hh : Nat} {ts : List Thing} {P : List Pr} (h : Sh w hh ts P) : (sortI (encM P)).map (fun p => PyData.int p.1) = (keysOf ts).map PyData.int := by
  have hp : (keysOf ts).Perm ((encM P).map (·.1)) := by
    rw [encM_keys, keysOf_things, ← h.sort]
    exact (sortI_perm P).map _
  have e := sortI_keys (kvs := encM P) (by rw [encM_keys]; exact h.nod) hp (List.Pairwise.imp (fun h => Int.le_of_lt h) h.rise)
  rw [e, List.map_map]
  rfl
theorem Sh.klen {w hh : Nat} {ts : List Thing} {P : List Pr} (h : Sh w hh ts P) : (keysOf ts).length = P.length := by
  rw [keysOf_things, ← h.sort, List.length_map, sortI_len]
theorem Sh.kmem {w hh : Nat} {ts : List Thing} {P : List Pr} (h : Sh w hh ts P) (k : Int) : k ∈ P.map (·.1) ↔ k ∈ keysOf ts := by
  rw [keysOf_things, ← h.sort]
  exact ((sortI_perm P).map (·.1)).mem_iff.symm
theorem Sh.vK {w hh : Nat} {ts : List Thing} {P : List Pr} (h : Sh w hh ts P) (hl : P.length < 64) {i : Nat} {ρ : SEnv} {a : Addr} (hi : ρ[i]? = some (.tr a (.dct (encM P)))) : vSortK i ρ = some (.sh (.list ((keysOf ts).map PyData.int))) := by
  unfold vSortK
  rw [inTr_of hi]
  show (if (encM P).length < 64 then some (Sl.sh (.list ((sortI (encM P)).map fun p => .int p.1))) else none) = _
  rw [encM_len, if_pos hl, h.keys]
theorem Sh.vI {w hh : Nat} {ts : List Thing} {P : List Pr} (h : Sh w hh ts P) (hl : P.length < 64) {i : Nat} {ρ : SEnv} {a : Addr} (hi : ρ[i]? = some (.tr a (.dct (encM P)))) : vSortI i ρ = some (.sh (.list ((things ts).map encP))) := by
  unfold vSortI
  rw [inTr_of hi]
  show ((intsV (encM P)).bind fun ps => if ps.length < 64 then some (Sl.sh (.list ((sortI ps).map fun p => .tuple [.int p.1, .int p.2]))) else none) = _
  rw [intsV_enc]
  show (if P.length < 64 then some (Sl.sh (.list ((sortI P).map fun p => .tuple [.int p.1, .int p.2]))) else none) = _
  rw [if_pos hl, h.sort]
  rfl
theorem Sh.put {w hh : Nat} {ts : List Thing} {P : List Pr} (h : Sh w hh ts P) {p : Nat} {k a b : Int} (hp : ts.getD p none = some (k, a)) : Sh w hh (ts.set p (some (k, b))) (putI P k b) := by
  obtain ⟨A, B, h1, h2, _⟩ := things_at ts p _ hp
  have hr := (rises_things ts).mp h.rise
  rw [h1] at hr
  have hne := rise_parts hr
  refine ⟨?_, by rw [List.length_set]; exact h.len, nodup_putI h.nod, fun q => ?_⟩
  · unfold Rises
    rw [keys_set_some (y := (k, b)) ts p (k, a) hp rfl]
    exact h.rise
  · rw [mem_putI, ← h.mem, h1, h2]
    simp only [List.mem_append, List.mem_cons]
    constructor
    · rintro (q1 | q1 | q1)
      · exact .inr ⟨.inl q1, hne q (.inl q1)⟩
      · exact .inl q1
      · exact .inr ⟨.inr (.inr q1), hne q (.inr q1)⟩
    · rintro (q1 | ⟨q1 | q1 | q1, q2⟩)
      · exact .inr (.inl q1)
      · exact .inl q1
      · exact absurd (by rw [q1]) q2
      · exact .inr (.inr q1)
theorem Sh.take {w hh : Nat} {ts : List Thing} {P : List Pr} (h : Sh w hh ts P) {p : Nat} {k a : Int} (hp : ts.getD p none = some (k, a)) : Sh w hh (ts.set p none) (dropI P k) := by
  obtain ⟨A, B, h1, _, h2⟩ := things_at ts p _ hp
  have hr := (rises_things ts).mp h.rise
  rw [h1] at hr
  have hne := rise_parts hr
  refine ⟨List.Pairwise.sublist (keys_clear ts p) h.rise, by rw [List.length_set]; exact h.len, nodup_dropI h.nod, fun q => ?_⟩
  rw [mem_dropI, ← h.mem, h1, h2]
  simp only [List.mem_append, List.mem_cons]
  constructor
  · rintro (q1 | q1)
    · exact ⟨.inl q1, hne q (.inl q1)⟩
    · exact ⟨.inr (.inr q1), hne q (.inr q1)⟩
  · rintro ⟨q1 | q1 | q1, q2⟩
    · exact .inl q1
    · exact absurd (by rw [q1]) q2
    · exact .inr q1
theorem key_place {ts : List Thing} {k : Int} (h : k ∈ keysOf ts) : ∃ p a, placeF k 0 ts = some p ∧ p < ts.length ∧ ts.getD p none = some (k, a) := by
  cases hp : placeF k 0 ts with
  | none => exact absurd h ((placeF_none ts 0).mp hp)
  | some p =>
    obtain ⟨h1, h2, a, h3⟩ := placeF_some ts 0 p hp
    exact ⟨p, a, rfl, by omega, by rw [Nat.sub_zero] at h3; exact h3⟩
theorem deed_ok {ts : List Thing} {P : List Pr} {t : Int} {w st hh : Nat} (bd : Bd t (w : Int) (st : Int)) (ht : (hh : Int) ≤ t) (sh : Sh w hh ts P) (h64 : P.length < 64) (c : Int) (crowd : Bool) : ∃ (ws : List (Nat × Thing)) (P' : List Pr), (∀ a : Addr, m__law_deed a (.dct (encM P)) [.tuple [.int t, .int (w : Int), .int (st : Int)], .int (hh : Int), .list (ts.map encD)] [.int c, .bool crowd] = some (.list (ws.map encW), .dct (encM P'))) ∧
    Sh w hh (doneF ts ws) P' ∧ P'.length ≤ P.length + 1 ∧ ∀ a : Addr, m__law_done a (.lst (ts.map encD)) [] [.list (ws.map encW), .list ((things ts).map encP), .list ((things (doneF ts ws)).map encP)] = some (.bool true, .lst ((doneF ts ws).map encD)) := by
  obtain ⟨w1, w20, st20, s1, h4⟩ := bd_nat bd ht
  have hz := pw_ok h4 w1 w20
  have hlen := sh.len
  have hR := sh.rise
  have hl : ts.length ≤ 320 := by omega
  have hkl := sh.klen
  have hrun : ∀ {a : Addr} {r : D} {ρ : SEnv} {P' : List Pr}, b__law_deed [.sh (.tuple [.int t, .int (w : Int), .int (st : Int)]), .sh (.int (hh : Int)), .sh (.list (ts.map encD)), .tr a (.dct (encM P)), .sh (.int c), .sh (.bool crowd), .no, .no, .no] = some (.ro r ρ) → ρ[3]? = some (.tr a (.dct (encM P'))) → m__law_deed a (.dct (encM P)) [.tuple [.int t, .int (w : Int), .int (st : Int)], .int (hh : Int), .list (ts.map encD)] [.int c, .bool crowd] = some (r, .dct (encM P')) := fun {a r ρ P'} h h' => runT_of rfl rfl h h'
  have first : ∀ {a : Addr} {o : Option Out} {F : PSt}, F [.sh (.tuple [.int t, .int (w : Int), .int (st : Int)]), .sh (.int (hh : Int)), .sh (.list (ts.map encD)), .tr a (.dct (encM P)), .sh (.int c), .sh (.bool crowd), .sh (.list ((keysOf ts).map PyData.int)), .sh (.int (c % 10)), .no] = o → pSq (pSet 6 (vSortK 3)) (pSq (pSet 7 (vS (pOp dMod (pVar 4) (pCon (.int 10))))) F) [.sh (.tuple [.int t, .int (w : Int), .int (st : Int)]), .sh (.int (hh : Int)), .sh (.list (ts.map encD)), .tr a (.dct (encM P)), .sh (.int c), .sh (.bool crowd), .no, .no, .no] = o := fun {a o F} h =>
    sq_nx (ρ' := [.sh (.tuple [.int t, .int (w : Int), .int (st : Int)]), .sh (.int (hh : Int)), .sh (.list (ts.map encD)), .tr a (.dct (encM P)), .sh (.int c), .sh (.bool crowd), .sh (.list ((keysOf ts).map PyData.int)), .no, .no]) (set_of (sh.vK h64 (a := a) rfl)) (sq_nx (ρ' := [.sh (.tuple [.int t, .int (w : Int), .int (st : Int)]), .sh (.int (hh : Int)), .sh (.list (ts.map encD)), .tr a (.dct (encM P)), .sh (.int c), .sh (.bool crowd), .sh (.list ((keysOf ts).map PyData.int)), .sh (.int (c % 10)), .no]) (set_of (q_way ..)) h)
  have kin : ∀ k, (getI (encM P) k).isSome = decide (k ∈ keysOf ts) := fun k => by
    rw [getI_enc, Option.isSome_map, getI_some]
    exact decide_eq_decide.mpr (sh.kmem k)
  have newk : ∀ k b, getI (encM (putI P k b)) k = some (.int b) := fun k b => by
    rw [getI_enc, getI_mem (b := b) (nodup_putI sh.nod) (mem_putI.mpr (.inl rfl))]
    rfl
  have h1000 : (encM P).length < 1000 := by rw [encM_len]; omega
  have put : ∀ {a : Addr} {s6 s7 : Sl} {k b : Int} {vf : SEnv → Option Sl} {W : List D}, (∀ s6 s7 s8, vf [.sh (.tuple [.int t, .int (w : Int), .int (st : Int)]), .sh (.int (hh : Int)), .sh (.list (ts.map encD)), .tr a (.dct (encM P)), .sh (.int c), .sh (.bool crowd), s6, s7, s8] = some (.sh (.int b))) → m_put_writes [.tuple [.int t, .int (w : Int), .int (st : Int)], .int (hh : Int), .list (ts.map encD), .int k, .int b] = some W →
      pSq (pSetD 3 (pVar 8) vf) (pRetOb (vCallL m_put_writes (sCons (vS (pVar 0)) (sCons (vS (pVar 1)) (sCons (vS (pVar 2)) (sCons (vS (pVar 8)) (sCons (vDGet 3 (pVar 8)) sNil))))))) [.sh (.tuple [.int t, .int (w : Int), .int (st : Int)]), .sh (.int (hh : Int)), .sh (.list (ts.map encD)), .tr a (.dct (encM P)), .sh (.int c), .sh (.bool crowd), s6, s7, .sh (.int k)] = some (.ro (.list W) [.sh (.tuple [.int t, .int (w : Int), .int (st : Int)]), .sh (.int (hh : Int)), .sh (.list (ts.map encD)), .tr a (.dct (encM (putI P k b))), .sh (.int c), .sh (.bool crowd), s6, s7, .sh (.int k)]) := fun {a s6 s7 k b vf W} hv hW => by
    refine sq_nx (ρ' := [.sh (.tuple [.int t, .int (w : Int), .int (st : Int)]), .sh (.int (hh : Int)), .sh (.list (ts.map encD)), .tr a (.dct (encM (putI P k b))), .sh (.int c), .sh (.bool crowd), s6, s7, .sh (.int k)]) ?_ (retOb_of (callL_of (q_args (h := dget_of (a := a) (kvs := encM (putI P k b)) (k := k) rfl rfl (newk k b)) ..) hW))
    rw [setD_of (a := a) (kvs := encM P) (k := k) (hv _ _ _) rfl rfl h1000, putI_enc]
    rfl
  by_cases hway : c % 10 < 3 ∧ ¬ keysOf ts = []
  · -- a key that is there
    have h0 := hway.2
    have hpos : 0 < ((keysOf ts).length : Int) := by
      have := List.length_pos_iff.mpr h0
      omega
    have hm := m_pos (c / 10) hpos
    obtain ⟨v, hv, hat⟩ := at_mem ((keysOf ts).map PyData.int) (i := c / 10 % ((keysOf ts).length : Int)) hm.1 (by rw [List.length_map]; exact hm.2)
    obtain ⟨k, hk, rfl⟩ := List.mem_map.mp hv
    obtain ⟨p, a0, hpl, hp1, hp2⟩ := key_place hk
    have hkl2 : ((keysOf ts).length : Int) < 1073741824 := by omega
    by_cases hc1 : c % 10 = 0
    · refine ⟨[(p, some (k, c / 10 % tenP 50))], putI P k (c / 10 % tenP 50), fun a => hrun (first (sq_ro (if_tt (by rw [q_test, decide_eq_true hway]) (sq_nx (ρ' := [.sh (.tuple [.int t, .int (w : Int), .int (st : Int)]), .sh (.int (hh : Int)), .sh (.list (ts.map encD)), .tr a (.dct (encM P)), .sh (.int c), .sh (.bool crowd), .sh (.list ((keysOf ts).map PyData.int)), .sh (.int (c % 10)), .sh (.int k)]) (set_of (q_key (ks := keysOf ts) (h0 := hpos) (h1 := hkl2) (hat := hat) ..)) (sq_ro (if_tt (by rw [q_zero, decide_eq_true hc1]) (put (b := c / 10 % tenP 50) (fun _ _ _ => q_worth ..) (put_there hpl)))))))) rfl, sh.put hp2, len_putI _ _ _, fun a => ?_⟩
      exact done_one a (things ts) hl hp1 (free_lay _ _ hp1 (.inr ⟨a0, hp2⟩))
    · refine ⟨[(p, none)], dropI P k, fun a => hrun (ρ := [.sh (.tuple [.int t, .int (w : Int), .int (st : Int)]), .sh (.int (hh : Int)), .sh (.list (ts.map encD)), .tr a (.dct (encM (dropI P k))), .sh (.int c), .sh (.bool crowd), .sh (.list ((keysOf ts).map PyData.int)), .sh (.int (c % 10)), .sh (.int k)]) (first (sq_ro (if_tt (by rw [q_test, decide_eq_true hway]) (sq_nx (ρ' := [.sh (.tuple [.int t, .int (w : Int), .int (st : Int)]), .sh (.int (hh : Int)), .sh (.list (ts.map encD)), .tr a (.dct (encM P)), .sh (.int c), .sh (.bool crowd), .sh (.list ((keysOf ts).map PyData.int)), .sh (.int (c % 10)), .sh (.int k)]) (set_of (q_key (ks := keysOf ts) (h0 := hpos) (h1 := hkl2) (hat := hat) ..)) (sq_nx (ρ' := [.sh (.tuple [.int t, .int (w : Int), .int (st : Int)]), .sh (.int (hh : Int)), .sh (.list (ts.map encD)), .tr a (.dct (encM P)), .sh (.int c), .sh (.bool crowd), .sh (.list ((keysOf ts).map PyData.int)), .sh (.int (c % 10)), .sh (.int k)]) (if_ff (by rw [q_zero, decide_eq_false hc1]) rfl) (sq_nx (ρ' := [.sh (.tuple [.int t, .int (w : Int), .int (st : Int)]), .sh (.int (hh : Int)), .sh (.list (ts.map encD)), .tr a (.dct (encM (dropI P k))), .sh (.int c), .sh (.bool crowd), .sh (.list ((keysOf ts).map PyData.int)), .sh (.int (c % 10)), .sh (.int k)]) ?_ (retOb_of (q_take (h := take_there hpl) ..)))))))) rfl, sh.take hp2, Nat.le_succ_of_le (len_dropI _ _), fun a => ?_⟩
      · rw [popD_of (a := a) (kvs := encM P) (k := k) rfl rfl (by rw [kin, decide_eq_true hk]), dropI_enc]
        rfl
      · exact done_one a (things ts) hl hp1 (free_clear _ hp1 (.inl rfl))
  · -- a key of the law's own drawing
    obtain ⟨k, hkey⟩ := LKb.key_ex (keysOf ts) (by omega) (c / 10) crowd
    have m4 := m_pos (c / 17) (b := 4) (by decide)
    obtain ⟨b, hb⟩ : ∃ b : Int, atI ([.int (c / 11 % tenP 50 - 3), .int 0, .int 1, .int (-1)] : List D) (c / 17 % 4) = some (.int b) := by
      obtain ⟨v, hv, e⟩ := at_mem ([.int (c / 11 % tenP 50 - 3), .int 0, .int 1, .int (-1)] : List D) (i := c / 17 % 4) m4.1 m4.2
      simp only [List.mem_cons, List.not_mem_nil, or_false] at hv
      rcases hv with rfl | rfl | rfl | rfl <;> exact ⟨_, e⟩
    have second : ∀ {a : Addr} {o : Option Out} {F G : PSt}, F [.sh (.tuple [.int t, .int (w : Int), .int (st : Int)]), .sh (.int (hh : Int)), .sh (.list (ts.map encD)), .tr a (.dct (encM P)), .sh (.int c), .sh (.bool crowd), .sh (.list ((keysOf ts).map PyData.int)), .sh (.int (c % 10)), .sh (.int k)] = o → pSq (pIfS (pAndT (pTest (pOp dLt (pVar 7) (pCon (.int 3)))) (pTest (pOp dNe (pVar 6) (pOfL (pLst pNil))))) G pNx) (pSq (pSet 8 (vS (pCall m__law_key (pCons (pVar 6) (pCons (pOp dDiv (pVar 4) (pCon (.int 10))) (pCons (pVar 5) pNil)))))) F) [.sh (.tuple [.int t, .int (w : Int), .int (st : Int)]), .sh (.int (hh : Int)), .sh (.list (ts.map encD)), .tr a (.dct (encM P)), .sh (.int c), .sh (.bool crowd), .sh (.list ((keysOf ts).map PyData.int)), .sh (.int (c % 10)), .no] = o := fun {a o F G} h =>
      sq_nx (ρ' := [.sh (.tuple [.int t, .int (w : Int), .int (st : Int)]), .sh (.int (hh : Int)), .sh (.list (ts.map encD)), .tr a (.dct (encM P)), .sh (.int c), .sh (.bool crowd), .sh (.list ((keysOf ts).map PyData.int)), .sh (.int (c % 10)), .no]) (if_ff (by rw [q_test, decide_eq_false hway]) rfl) (sq_nx (ρ' := [.sh (.tuple [.int t, .int (w : Int), .int (st : Int)]), .sh (.int (hh : Int)), .sh (.list (ts.map encD)), .tr a (.dct (encM P)), .sh (.int c), .sh (.bool crowd), .sh (.list ((keysOf ts).map PyData.int)), .sh (.int (c % 10)), .sh (.int k)]) (set_of (q_drawn (h := hkey) ..)) h)
    have cap : ∀ a : Addr, bAnd (bNotIn 3 (pVar 8)) (bT (pTest (pOp dGe (pCall gLen (pCons (pVar 6) pNil)) (pOp dMul (pCall m__law_two (pCons (pVar 1) pNil)) (pOp dSub (pOp dIx (pVar 0) (pCon (.int 1))) (pOp dMul (pVar 1) (pOp dIx (pVar 0) (pCon (.int 2))))))))) [.sh (.tuple [.int t, .int (w : Int), .int (st : Int)]), .sh (.int (hh : Int)), .sh (.list (ts.map encD)), .tr a (.dct (encM P)), .sh (.int c), .sh (.bool crowd), .sh (.list ((keysOf ts).map PyData.int)), .sh (.int (c % 10)), .sh (.int k)] = some (decide (k ∉ keysOf ts) && decide ((2 : Int) ^ hh * ((w : Int) - hh * st) ≤ ((keysOf ts).length : Int))) := fun a => by
      unfold bAnd bT
      rw [notIn_of (a := a) (kvs := encM P) (k := k) rfl rfl, kin]
      by_cases hk : k ∈ keysOf ts
      · rw [decide_eq_true hk, decide_eq_false (show ¬ k ∉ keysOf ts from fun z => z hk)]
        rfl
      · rw [decide_eq_false hk, decide_eq_true hk]
        show pTest _ _ = some (true && _)
        rw [Bool.true_and]
        exact q_cap _ _ _ _ _ _ t w st hh (keysOf ts) h4 w20 st20
    by_cases hk : k ∈ keysOf ts
    · obtain ⟨p, a0, hpl, hp1, hp2⟩ := key_place hk
      refine ⟨[(p, some (k, b))], putI P k b, fun a => hrun (first (second (sq_nx (ρ' := [.sh (.tuple [.int t, .int (w : Int), .int (st : Int)]), .sh (.int (hh : Int)), .sh (.list (ts.map encD)), .tr a (.dct (encM P)), .sh (.int c), .sh (.bool crowd), .sh (.list ((keysOf ts).map PyData.int)), .sh (.int (c % 10)), .sh (.int k)]) (ifB_ff (by rw [cap, decide_eq_false (show ¬ k ∉ keysOf ts from fun z => z hk), Bool.false_and]) rfl) (put (b := b) (fun _ _ _ => q_new (h := hb) ..) (put_there hpl))))) rfl, sh.put hp2, len_putI _ _ _, fun a => ?_⟩
      exact done_one a (things ts) hl hp1 (free_lay _ _ hp1 (.inr ⟨a0, hp2⟩))
    · by_cases hc : (2 : Int) ^ hh * ((w : Int) - hh * st) ≤ ((keysOf ts).length : Int)
      · exact ⟨[], P, fun a => hrun (first (second (sq_ro (ifB_tt (by rw [cap, decide_eq_true hk, decide_eq_true hc, Bool.true_and]) (retOb_of rfl))))) rfl, sh, Nat.le_succ _, fun a => done_none a _ hl⟩
      · have hk2 : ((keysOf ts).length : Int) < 2 ^ hh * ((w : Int) - hh * st) := Int.not_le.mp hc
        have hsl := seatN_le ts k ts.length
        obtain ⟨h, h1, h2, h3, _⟩ := stretch_law ts (t := t) (w := w) (st := st) (hh := hh) w1 w20 st20 h4 hlen k (roomy_whole ts hlen (by omega) hk2)
        obtain ⟨X, Y, Z, Y', s', e1, e2, e3, e4, hput, r, hsl', hfree, hd, hd2, hp, hth, hn, hm, ha⟩ := put_spec ts t w st hh k b h bd ht hlen hR hk hk2 h1 h2 h3
        obtain ⟨g4, g5⟩ : beg w (seatN ts k ts.length) h ≤ seatN ts k ts.length ∧ seatN ts k ts.length < beg w (seatN ts k ts.length) h + 2 ^ h * w := by
          obtain ⟨_, _, _, _, _, _, a, b⟩ := stretch_cut (h := h) w1 hlen h1 (s := seatN ts k ts.length) (by omega)
          exact ⟨a, b⟩
        have hYl : (things Y).length ≤ Y.length := List.length_filterMap_le _ _
        have hY2 : Y.length ≤ ts.length := by rw [e1, List.length_append, List.length_append]; omega
        refine ⟨evW X.length Y k b, putI P k b, fun a => hrun (first (second (sq_nx (ρ' := [.sh (.tuple [.int t, .int (w : Int), .int (st : Int)]), .sh (.int (hh : Int)), .sh (.list (ts.map encD)), .tr a (.dct (encM P)), .sh (.int c), .sh (.bool crowd), .sh (.list ((keysOf ts).map PyData.int)), .sh (.int (c % 10)), .sh (.int k)]) (ifB_ff (by rw [cap, decide_eq_false hc, Bool.and_false]) rfl) (put (b := b) (fun _ _ _ => q_new (h := hb) ..) hput)))) rfl, ⟨?_, ?_, nodup_putI sh.nod, fun q => ?_⟩, len_putI _ _ _, fun a => ?_⟩
        · rw [hd2]
          exact rise_put (X := X) (Y := Y) (Z := Z) (by rw [← e1]; exact hR) (by rw [← e1]; exact hk) (s := seatN ts k ts.length) (by rw [← e1]) (by rw [e2]; exact g4) (by rw [e2, e3]; exact g5) hth
        · rw [doneF_length]
          exact hlen
        · have hne : ∀ q ∈ things ts, q.1 ≠ k := fun q hq z => hk (by rw [keysOf_things, ← z]; exact List.mem_map_of_mem hq)
          rw [mem_putI, ← sh.mem, hd2]
          have hT : ∀ q, q ∈ things ts ↔ q ∈ things X ∨ q ∈ things Y ∨ q ∈ things Z := fun q => by
            rw [e1, things_app, things_app, List.mem_append, List.mem_append, or_assoc]
          have hY : ∀ q, q ∈ things Y ↔ q ∈ (things Y).take (lessN Y k) ∨ q ∈ (things Y).drop (lessN Y k) := fun q => by
            rw [← List.mem_append, List.take_append_drop]
          rw [things_app, things_app, hth, List.mem_append, List.mem_append, List.mem_append, List.mem_cons]
          constructor
          · rintro ((q1 | q1 | q1 | q1) | q1)
            · exact .inr ⟨(hT q).mpr (.inl q1), hne q ((hT q).mpr (.inl q1))⟩
            · have := (hT q).mpr (.inr (.inl ((hY q).mpr (.inl q1))))
              exact .inr ⟨this, hne q this⟩
            · exact .inl q1
            · have := (hT q).mpr (.inr (.inl ((hY q).mpr (.inr q1))))
              exact .inr ⟨this, hne q this⟩
            · exact .inr ⟨(hT q).mpr (.inr (.inr q1)), hne q ((hT q).mpr (.inr (.inr q1)))⟩
          · rintro (q1 | ⟨q1, _⟩)
            · exact .inl (.inr (.inr (.inl q1)))
            · rcases (hT q).mp q1 with q1 | q1 | q1
              · exact .inl (.inl q1)
              · rcases (hY q).mp q1 with q1 | q1
                · exact .inl (.inr (.inl q1))
                · exact .inl (.inr (.inr (.inr q1)))
              · exact .inr q1
        · rw [hd]
          exact done_put a r ((rises_things ts).mp hR) hl hsl' (by omega) hfree
theorem rep_comp {fi : PAs} {W : Nat} (hW : W < 16777216) {ρ : PEnv} (h : fi ρ = some ((List.range W).map natD)) : pComp fi (bd1 0) pTrue (pTup pNil) 1 [] ρ = some ((List.replicate W (none : Thing)).map encD) := by
  rw [comp_eq h (by simpa using hW), compP_mapT natD (fun _ => encD none)]
  · congr 1
    rw [List.map_replicate, List.map_const', List.length_range]
  · intro i _
    exact ⟨_, rfl, rfl⟩
theorem things_rep : ∀ n : Nat, things (List.replicate n (none : Thing)) = []
  | 0 => rfl
  | n + 1 => by
    rw [List.replicate_succ]
    exact things_rep n
theorem encD_flat : ∀ ts : List Thing, flatAll (ts.map encD) = true
  | [] => rfl
  | none :: ts => encD_flat ts
  | some x :: ts => by
    show (flatD (.tuple [.int x.1, .int x.2]) && flatAll (ts.map encD)) = true
    rw [encD_flat ts]
    rfl
theorem turn_ok {ts : List Thing} {P : List Pr} {t : Int} {w st hh : Nat} (bd : Bd t (w : Int) (st : Int)) (ht : (hh : Int) ≤ t) (sh : Sh w hh ts P) (h63 : P.length < 63) (ns : List Int) (a b : Addr) (c : Int) (cr : Bool) (s7 s8 : Sl) : ∃ (ts' : List Thing) (P' : List Pr) (s7' s8' : Sl), l_law_1 [.sh (.list (ns.map PyData.int)), .sh (.tuple [.int t, .int (w : Int), .int (st : Int)]), .sh (.int (hh : Int)), .sh (.bool cr), .tr a (.lst (ts.map encD)), .tr b (.dct (encM P)), .sh (.int c), s7, s8] = some (.nx [.sh (.list (ns.map PyData.int)), .sh (.tuple [.int t, .int (w : Int), .int (st : Int)]), .sh (.int (hh : Int)), .sh (.bool cr), .tr a (.lst (ts'.map encD)), .tr b (.dct (encM P')), .sh (.int c), s7', s8']) ∧ Sh w hh ts' P' ∧ P'.length ≤ P.length + 1 := by
  obtain ⟨ws, P', h1, sh', h2, h3⟩ := deed_ok bd ht sh (by omega) c cr
  refine ⟨doneF ts ws, P', .sh (.list ((things ts).map encP)), .sh (.list (ws.map encW)), ?_, sh', h2⟩
  unfold l_law_1
  have hfl := encD_flat ts
  refine sq_nx (ρ' := [.sh (.list (ns.map PyData.int)), .sh (.tuple [.int t, .int (w : Int), .int (st : Int)]), .sh (.int (hh : Int)), .sh (.bool cr), .tr a (.lst (ts.map encD)), .tr b (.dct (encM P)), .sh (.int c), .sh (.list ((things ts).map encP)), s8]) (set_of (sh.vI (by omega) (a := b) rfl)) ?_
  refine sq_nx (ρ' := [.sh (.list (ns.map PyData.int)), .sh (.tuple [.int t, .int (w : Int), .int (st : Int)]), .sh (.int (hh : Int)), .sh (.bool cr), .tr a (.lst (ts.map encD)), .tr b (.dct (encM P')), .sh (.int c), .sh (.list ((things ts).map encP)), .sh (.list (ws.map encW))]) (setM_of (a := b) (c := .dct (encM P)) (xs := [.tuple [.int t, .int (w : Int), .int (st : Int)], .int (hh : Int), .list (ts.map encD)]) (ys := [.int c, .bool cr]) rfl ?_ (h1 b)) ?_
  · clear h1 h2 h3 sh' sh bd ht h63
    walk_at "pu"
  · have hs := sh'.vI (by omega) (i := 5) (a := b) (ρ := [.sh (.list (ns.map PyData.int)), .sh (.tuple [.int t, .int (w : Int), .int (st : Int)]), .sh (.int (hh : Int)), .sh (.bool cr), .tr a (.lst (ts.map encD)), .tr b (.dct (encM P')), .sh (.int c), .sh (.list ((things ts).map encP)), .sh (.list (ws.map encW))]) rfl
    rw [ifM_of (a := a) (c := .lst (ts.map encD)) (c' := .lst ((doneF ts ws).map encD)) (xs := []) (ys := [.list (ws.map encW), .list ((things ts).map encP), .list ((things (doneF ts ws)).map encP)]) rfl ?_ (h3 a)]
    · rfl
    · clear h1 h2 h3 sh' sh bd ht h63 hfl
      walk_at "pu"
theorem holds (ns : List Int) (hns : ns.length ≤ 63) : m_law [.list (ns.map PyData.int)] = some (.bool true) := by
  obtain ⟨c0, hc0⟩ := cell_ex ns (k := 0) (by decide)
  obtain ⟨t, w', st', hb, bd, hsm⟩ := small_ex c0
  obtain ⟨z, hz⟩ := cell_ex ns (k := 1) (by decide)
  have t0 := bd.t0
  have t4 := bd.t4
  have w1' := bd.w1
  have s1' := bd.s1
  have t1 : 0 < min 2 t + 1 := by omega
  have hm := m_pos z t1
  obtain ⟨hh, hhe⟩ : ∃ hh : Nat, z % (min 2 t + 1) = (hh : Int) := ⟨(z % (min 2 t + 1)).toNat, by omega⟩
  obtain ⟨w, rfl⟩ : ∃ w : Nat, w' = (w : Int) := ⟨w'.toNat, by omega⟩
  obtain ⟨st, rfl⟩ : ∃ st : Nat, st' = (st : Int) := ⟨st'.toNat, by omega⟩
  have ht : (hh : Int) ≤ t := by omega
  obtain ⟨w1, w20, st20, s1, h4⟩ := bd_nat bd ht
  have hpw := pw_ok h4 w1 w20
  have htwo := two_eq (h := (hh : Int)) (by omega) (by omega)
  rw [tw_nat] at htwo
  have hmul : ((2 ^ hh : Nat) : Int) * (w : Int) = ((2 ^ hh * w : Nat) : Int) := (Int.natCast_mul _ _).symm
  obtain ⟨W, hW⟩ : ∃ W : Nat, 2 ^ hh * w = W := ⟨_, rfl⟩
  rw [hW] at hmul hpw
  have hrange := range_natD W (by omega)
  obtain ⟨cr, hcr⟩ : ∃ cr : Bool, decide (z / 3 % 2 = 1) = cr := ⟨_, rfl⟩
  obtain ⟨ts0, hts⟩ : ∃ ts0 : List Thing, List.replicate W none = ts0 := ⟨_, rfl⟩
  have sh0 : Sh w hh ts0 [] := by
    have hth : things ts0 = [] := by rw [← hts]; exact things_rep W
    refine ⟨?_, by rw [← hts, List.length_replicate, hW], .nil, fun q => by rw [hth]⟩
    rw [rises_things, hth]
    exact .nil
  obtain ⟨cs, hcs, hcl⟩ := cut_ints ns (some 2) (some 47)
  have loop : ∀ a b : Addr, ∃ (ρ' : SEnv) (zs : List Int), pItL (pOfL (pComp (pItL (pOfL (pSl (pVar 0) (pPart (pCon (.int 2))) (pPart (pCon (.int 47)))))) (bd1 0) pTrue (pCall m__law_spread (pCons (pVar 0) pNil)) 1 [])) (masked [.sh (.list (ns.map PyData.int)), .sh (.tuple [.int t, .int (w : Int), .int (st : Int)]), .sh (.int (hh : Int)), .sh (.bool cr), .tr a (.lst (ts0.map encD)), .tr b (.dct (encM [])), .no, .no, .no]) = some (zs.map PyData.int) ∧ forP (bs1 6) l_law_1 (zs.map PyData.int) [.sh (.list (ns.map PyData.int)), .sh (.tuple [.int t, .int (w : Int), .int (st : Int)]), .sh (.int (hh : Int)), .sh (.bool cr), .tr a (.lst (ts0.map encD)), .tr b (.dct (encM [])), .no, .no, .no] = some (.nx ρ') := fun a b => by
    obtain ⟨zs, hzs, hzl, _⟩ := spreads_comp cs (by omega) (fi := pItL (pOfL (pSl (pVar 0) (pPart (pCon (.int 2))) (pPart (pCon (.int 47)))))) (ρ := masked [.sh (.list (ns.map PyData.int)), .sh (.tuple [.int t, .int (w : Int), .int (st : Int)]), .sh (.int (hh : Int)), .sh (.bool cr), .tr a (.lst (ts0.map encD)), .tr b (.dct (encM [])), .no, .no, .no]) (by clear hc0 hb hz htwo hmul hrange hts sh0 bd hsm hm hpw hcr hhe; walk_at "pu")
    have hl := for_cnt (bs := bs1 6) (F := l_law_1) PyData.int (fun m ρ => ∃ (ts : List Thing) (P : List Pr) (s6 s7 s8 : Sl), ρ = [.sh (.list (ns.map PyData.int)), .sh (.tuple [.int t, .int (w : Int), .int (st : Int)]), .sh (.int (hh : Int)), .sh (.bool cr), .tr a (.lst (ts.map encD)), .tr b (.dct (encM P)), s6, s7, s8] ∧ Sh w hh ts P ∧ P.length ≤ m) zs 0 [.sh (.list (ns.map PyData.int)), .sh (.tuple [.int t, .int (w : Int), .int (st : Int)]), .sh (.int (hh : Int)), .sh (.bool cr), .tr a (.lst (ts0.map encD)), .tr b (.dct (encM [])), .no, .no, .no] (fun m ρ c hcm hmm ⟨ts, P, s6, s7, s8, e, sh, hP⟩ => ?_) ⟨ts0, [], .no, .no, .no, rfl, sh0, Nat.le_refl _⟩
    · obtain ⟨ρ', h, _⟩ := hl
      refine ⟨ρ', zs, ?_, h⟩
      generalize pComp (pItL (pOfL (pSl (pVar 0) (pPart (pCon (.int 2))) (pPart (pCon (.int 47)))))) (bd1 0) pTrue (pCall m__law_spread (pCons (pVar 0) pNil)) 1 [] = CC at *
      unfold pItL pOfL
      rw [hzs]
      rfl
    · subst e
      obtain ⟨ts', P', s7', s8', h1, h2, h3⟩ := turn_ok bd ht sh (by omega) ns a b c cr s7 s8
      exact ⟨_, _, rfl, h1, ts', P', _, _, _, rfl, h2, by omega⟩
  refine runF_of (o := .rt (.bool true)) rfl ?_ rfl
  unfold b_law
  refine sq_nx (ρ' := [.sh (.list (ns.map PyData.int)), .sh (.tuple [.int t, .int (w : Int), .int (st : Int)]), .no, .no, .no, .no, .no, .no, .no]) (by clear loop hcs hz htwo hmul hrange hts sh0 bd hsm hm hpw hcr hhe; walk_at "pu") ?_
  refine sq_nx (ρ' := [.sh (.list (ns.map PyData.int)), .sh (.tuple [.int t, .int (w : Int), .int (st : Int)]), .sh (.int (hh : Int)), .no, .no, .no, .no, .no, .no]) (by clear loop hcs hc0 hb htwo hmul hrange hts sh0 bd hsm hm hpw hcr; walk_at "pu") ?_
  refine sq_nx (ρ' := [.sh (.list (ns.map PyData.int)), .sh (.tuple [.int t, .int (w : Int), .int (st : Int)]), .sh (.int (hh : Int)), .sh (.bool cr), .no, .no, .no, .no, .no]) (by clear loop hcs hc0 hb htwo hmul hrange hts sh0 bd hsm hm hpw hhe; walk_at "pu") ?_
  refine sq_nx (ρ' := [.sh (.list (ns.map PyData.int)), .sh (.tuple [.int t, .int (w : Int), .int (st : Int)]), .sh (.int (hh : Int)), .sh (.bool cr), .ow (ts0.map encD), .no, .no, .no, .no]) ?_ ?_
  · refine set_of ?_
    unfold vL
    have hws : -18446744073709551616 < (w : Int) ∧ (w : Int) < 18446744073709551616 := by omega
    have hc := rep_comp (fi := pCallL gRange1 (pCons (pOp dMul (pCall m__law_two (pCons (pVar 2) pNil)) (pOp dIx (pVar 1) (pCon (.int 1)))) pNil)) (ρ := masked [.sh (.list (ns.map PyData.int)), .sh (.tuple [.int t, .int (w : Int), .int (st : Int)]), .sh (.int (hh : Int)), .sh (.bool cr), .no, .no, .no, .no, .no]) (W := W) (by omega) (by clear loop hcs hc0 hb hz hts sh0 bd hsm hm hhe hcr hW hpw w1 w20 st20 s1 h4 t0 t4 w1' s1' t1 ht hns hcl; generalize (2 ^ hh : Nat) = T at *; walk_at "pu"; rfl)
    rw [hc, hts]
    rfl
  · show anyA _ = _
    refine anyA_eq fun a => ?_
    show anyA _ = _
    refine anyA_eq fun b => ?_
    obtain ⟨ρ', zs, h1, h2⟩ := loop a b
    exact sq_nx ((for_eq h1).trans h2) rfl
end S16
open PySem PySem.W PyProof.Rows
set_option maxRecDepth 100000 in
set_option maxHeartbeats 0 in
theorem PySem.Challenge.cw_gapshelf_k16_whole_the_last_write_decide_holds : PySem.Challenge.rw_gapshelf_k16_whole_the_last_write_decide.Holds := by
  w_on; o_law; k_head; (case hw => w_witness2)
  k_fill
  refine L2.walk_ofK (l := PySem.Challenge.rw_gapshelf_k16_whole_the_last_write_decide) (n := 63) (k := 7) (x := "script") (CX := L2.CX0) (sp := L2.spLawP) rfl (by decide) rfl ⟨rfl, by decide, by decide⟩ (fun w h Y => PySem.W.kIn_of Y) ?F ?S ?C
  case S => exact fun K H a ns hl hO hS => ⟨a, ns, rfl, hS, hl, fun _ => rfl⟩
  case C => exact fun _ _ _ _ z => z
  case F =>
    intro w mg fa h KX G hmg
    refine' S16.all_mk S16.holds KX G hmg ?a0 ?a1 ?a2 ?a3 ?a4 ?a5 ?a6 ?a7 ?a8 ?a9 ?a10 ?a11 ?a12 ?a13 ?a14 ?a15 ?a16 ?a17 ?a18 ?a19 ?a20 ?a21 ?a22 ?a23 ?a24 ?a25 ?z_enumerate ?z_int ?z_len ?z_list ?z_max ?z_min ?z_range ?z_reversed ?z_sorted ?z_zip
    (case a0 => refine' L2.fnAt ?a ?l ?c ?k; case a | l | c | k => k_is); (case a1 => refine' L2.fnAt ?a ?l ?c ?k; case a | l | c | k => k_is); (case a2 => refine' L2.fnAt ?a ?l ?c ?k; case a | l | c | k => k_is); (case a3 => refine' L2.fnAt ?a ?l ?c ?k; case a | l | c | k => k_is); (case a4 => refine' L2.fnAt ?a ?l ?c ?k; case a | l | c | k => k_is); (case a5 => refine' L2.fnAt ?a ?l ?c ?k; case a | l | c | k => k_is); (case a6 => refine' L2.fnAt ?a ?l ?c ?k; case a | l | c | k => k_is); (case a7 => refine' L2.fnAt ?a ?l ?c ?k; case a | l | c | k => k_is); (case a8 => refine' L2.fnAt ?a ?l ?c ?k; case a | l | c | k => k_is); (case a9 => refine' L2.fnAt ?a ?l ?c ?k; case a | l | c | k => k_is); (case a10 => refine' L2.fnAt ?a ?l ?c ?k; case a | l | c | k => k_is); (case a11 => refine' L2.fnAt ?a ?l ?c ?k; case a | l | c | k => k_is); (case a12 => refine' L2.fnAt ?a ?l ?c ?k; case a | l | c | k => k_is); (case a13 => refine' L2.fnAt ?a ?l ?c ?k; case a | l | c | k => k_is); (case a14 => refine' L2.fnAt ?a ?l ?c ?k; case a | l | c | k => k_is); (case a15 => refine' L2.fnAt ?a ?l ?c ?k; case a | l | c | k => k_is); (case a16 => refine' L2.fnAt ?a ?l ?c ?k; case a | l | c | k => k_is); (case a17 => refine' L2.fnAt ?a ?l ?c ?k; case a | l | c | k => k_is); (case a18 => refine' L2.fnAt ?a ?l ?c ?k; case a | l | c | k => k_is); (case a19 => refine' L2.fnAt ?a ?l ?c ?k; case a | l | c | k => k_is); (case a20 => refine' L2.fnAt ?a ?l ?c ?k; case a | l | c | k => k_is); (case a21 => refine' L2.fnAt ?a ?l ?c ?k; case a | l | c | k => k_is); (case a22 => refine' L2.fnAt ?a ?l ?c ?k; case a | l | c | k => k_is); (case a23 => refine' L2.fnAt ?a ?l ?c ?k; case a | l | c | k => k_is); (case a24 => refine' L2.fnAt ?a ?l ?c ?k; case a | l | c | k => k_is); (case a25 => refine' L2.fnAt ?a ?l ?c ?k; case a | l | c | k => k_is); (case z_enumerate => k_is); (case z_int => k_is); (case z_len => k_is); (case z_list => k_is); (case z_max => k_is); (case z_min => k_is); (case z_range => k_is); (case z_reversed => k_is); (case z_sorted => k_is); (case z_zip => k_is)
#print axioms PySem.Challenge.cw_gapshelf_k16_whole_the_last_write_decide_holds
