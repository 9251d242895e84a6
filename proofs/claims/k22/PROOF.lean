import PyProof.Rows.All
import Wide.All
import OpenK.AllK
import Wide.FinOn
import Lean
import PyProof.EqAt
import PyProof.EqKinds
import PyProof.TupleCall
import KE.KIntText
import PyProof.StrOps2
import PySem.Challenge.RW_gapshelf_k22_disk_or_not
set_option Elab.async false
set_option linter.all false
set_option maxRecDepth 100000
namespace L2
open PySem PySem.Spec PyProof.Rows
abbrev Key := Sum Int Str
def keyIs : Key → Value → Bool
  | .inl k, v => Value.isInt k v
  | .inr x, v => Value.isStrOf x v
def keyH (w : World) : Key → Int
  | .inl k => hashInt k
  | .inr x => hashStr w x
theorem keyIs_shape : ∀ {k : Key} {v : Value}, keyIs k v = true → (∃ i t, k = Sum.inl i ∧ v = Value.int i t) ∨ (∃ x t, k = Sum.inr x ∧ v = Value.str x t)
  | .inl i, v, h => by
    obtain ⟨t, e⟩ := Value.isInt_shape (k := i) (v := v) h
    exact .inl ⟨i, t, rfl, e⟩
  | .inr x, v, h => by
    obtain ⟨t, e⟩ := Value.isStrOf_shape (x := x) (v := v) h
    exact .inr ⟨x, t, rfl, e⟩
theorem key_ll (a b : Int) : decide ((Sum.inl a : Key) = Sum.inl b) = (a == b) := by
  by_cases e : a = b
  · subst e; simp
  · have h : ¬ (Sum.inl a : Key) = Sum.inl b := fun q => e (Sum.inl.inj q)
    rw [decide_eq_false h]
    exact (beq_eq_false_iff_ne.mpr e).symm
theorem key_rr (a b : Str) : decide ((Sum.inr a : Key) = Sum.inr b) = decide (a = b) := by
  by_cases e : a = b
  · subst e; simp
  · have h : ¬ (Sum.inr a : Key) = Sum.inr b := fun q => e (Sum.inr.inj q)
    rw [decide_eq_false h, decide_eq_false e]
theorem key_lr (a : Int) (b : Str) : decide ((Sum.inl a : Key) = Sum.inr b) = false := decide_eq_false (fun q => nomatch q)
theorem key_rl (a : Str) (b : Int) : decide ((Sum.inr a : Key) = Sum.inl b) = false := decide_eq_false (fun q => nomatch q)
def mixKind (prog : Program) (w : World) : PySem.KeyKind prog w Key where
  is := keyIs
  hash := keyH w
  inj := fun v a b ha hb => by
    rcases keyIs_shape ha with ⟨i, t, rfl, rfl⟩ | ⟨x, t, rfl, rfl⟩
    · rcases keyIs_shape hb with ⟨j, u, rfl, e⟩ | ⟨y, u, rfl, e⟩
      · injection e with e1 _; rw [e1]
      · exact nomatch e
    · rcases keyIs_shape hb with ⟨j, u, rfl, e⟩ | ⟨y, u, rfl, e⟩
      · exact nomatch e
      · injection e with e1 _; rw [e1]
  byValue := fun k v h => by
    rcases keyIs_shape h with ⟨i, t, rfl, rfl⟩ | ⟨x, t, rfl, rfl⟩ <;> rfl
  pyHash := fun hv h => by
    rcases keyIs_shape hv with ⟨i, t, rfl, rfl⟩ | ⟨x, t, rfl, rfl⟩
    · exact wpAny_pyHash_int h
    · exact wpAny_pyHash_str h
  eqBool := fun hu hv h => by
    rcases keyIs_shape hu with ⟨i, t, rfl, rfl⟩ | ⟨x, t, rfl, rfl⟩
    · rcases keyIs_shape hv with ⟨j, u, rfl, rfl⟩ | ⟨y, u, rfl, rfl⟩
      · rw [key_ll] at h; exact wpAny_eqBool_int h
      · rw [key_lr] at h; exact SeqAt.EqAt.int_str i t y u _ _ _ _ h
    · rcases keyIs_shape hv with ⟨j, u, rfl, rfl⟩ | ⟨y, u, rfl, rfl⟩
      · rw [key_rl] at h; exact SeqAt.EqAt.str_int x t j u _ _ _ _ h
      · rw [key_rr] at h; exact wpAny_eqBool_str h
  «strs» := fun k x t v h => by
    rcases keyIs_shape h with ⟨i, u, rfl, e⟩ | ⟨y, u, rfl, e⟩
    · exact nomatch e
    · injection e with e1 _
      subst e1
      cases v <;> rfl
end L2
namespace L2
open PySem PySem.Spec PyProof.Rows
inductive V where
  | non | bl (b : Bool) | int (i : Int) | str (x : Str) | byt (b : Array UInt8) | flt (b : UInt64) | ref (a : Addr) | ty (n : String)
  deriving DecidableEq
def RelV : V → Value → Prop
  | .non, u => u = Value.none
  | .bl b, u => u = Value.bool b
  | .int i, u => ∃ t, u = Value.int i t
  | .str x, u => ∃ t, u = Value.str x t
  | .byt b, u => ∃ t, u = Value.bytes b t
  | .flt b, u => ∃ t, u = Value.float b t
  | .ref a, u => u = Value.ref a
  | .ty n, u => u = Value.type n
abbrev Vals : List V → List Value → Prop := Paired RelV
theorem Vals.length {xs : List V} {us : List Value} (r : Vals xs us) : xs.length = us.length := Paired.length r
theorem Vals.get : ∀ {xs : List V} {us : List Value} {i : Nat} {x : V}, Vals xs us → xs[i]? = some x → ∃ u, us[i]? = some u ∧ RelV x u
  | _, _, _, _, .nil, e => by simp at e
  | _, _, 0, _, .cons r _, e => by simp at e; subst e; exact ⟨_, rfl, r⟩
  | _, _, i + 1, x, .cons _ t, e => by
    obtain ⟨u, h1, h2⟩ := Vals.get (i := i) (x := x) t (by simpa using e)
    exact ⟨u, by simpa using h1, h2⟩
theorem Vals.set {x : V} {u : Value} (r : RelV x u) : ∀ {xs : List V} {us : List Value} (i : Nat), Vals xs us → Vals (xs.set i x) (us.set i u)
  | _, _, _, .nil => .nil
  | _, _, 0, .cons _ t => .cons r t
  | _, _, i + 1, .cons q t => .cons q (Vals.set r i t)
theorem Vals.append : ∀ {xs ys : List V} {us ws : List Value}, Vals xs us → Vals ys ws → Vals (xs ++ ys) (us ++ ws)
  | _, _, _, _, .nil, s => s
  | _, _, _, _, .cons r t, s => .cons r (Vals.append t s)
theorem Vals.take : ∀ {xs : List V} {us : List Value} (n : Nat), Vals xs us → Vals (xs.take n) (us.take n)
  | _, _, 0, _ => .nil
  | _, _, _ + 1, .nil => .nil
  | _, _, n + 1, .cons r t => .cons r (Vals.take n t)
theorem Vals.drop : ∀ {xs : List V} {us : List Value} (n : Nat), Vals xs us → Vals (xs.drop n) (us.drop n)
  | _, _, 0, r => r
  | _, _, _ + 1, .nil => .nil
  | _, _, n + 1, .cons _ t => Vals.drop n t
def RelO : Option V → Option Value → Prop
  | some v, some u => RelV v u
  | none, none => True
  | _, _ => False
def KV {κ : Type} : List (κ × V) → List (κ × Value) → Prop := Paired fun (p : κ × V) (q : κ × Value) => p.1 = q.1 ∧ RelV p.2 q.2
def kV : Key → V
  | .inl i => .int i
  | .inr x => .str x
inductive HO where
  | lst (xs : List V)
  | tup (xs : List V)
  | dK (kvs : List (Key × V)) | dT (kvs : List (List Key × V))
  | set (S : Int → Bool) (n : Nat)
  | ins (C dx : Addr) (fs : List (Str × V))
  | own (x : Addr)
  | xd (fs : List (Str × V))
  | met (f x : Addr)
  | rng (lo hi : Int)
  | frz (o : Obj) (u : HO)
  | tbl (ps : Array Value)
  | ext (φ : Heap → Prop)
abbrev Hp := Addr → Option HO
def upd (H : Hp) (a : Addr) (o : HO) : Hp := fun b => if b = a then some o else H b
theorem upd_same {H : Hp} {a : Addr} {o : HO} : upd H a o a = some o := by unfold upd; rw [if_pos rfl]
theorem upd_ne {H : Hp} {a b : Addr} {o : HO} (h : b ≠ a) : upd H a o b = H b := by unfold upd; rw [if_neg h]
theorem ne_of_none {H : Hp} {a b : Addr} {o : HO} (h : H a = some o) (h' : H b = none) : a ≠ b := by
  intro e; subst e; rw [h] at h'; cases h'
section
variable (P : Program) (w : World)
def ObjOk (H : Hp) (h : Heap) (a : Addr) : HO → Prop
  | .lst xs => xs.length ≤ sizeLine ∧ ∃ (its : List Value) (n : Nat), Vals xs its ∧ h.get? a = some { cls := .type "list", data := .seq its.toArray n }
  | .tup xs => xs.length ≤ sizeLine ∧ ∃ its : List Value, Vals xs its ∧ IsTup h a its.toArray
  | .dK kvs => kvs.length ≤ sizeLine ∧ (a == sysModules) = false ∧ ∃ vs, KV kvs vs ∧ h.DictOf (mixKind P w) a vs
  | .dT kvs => kvs.length ≤ sizeLine ∧ (a == sysModules) = false ∧ ∃ xs : List (List Key × Addr × Value),
      Paired (fun (p : List Key × V) (q : List Key × Addr × Value) => p.1 = q.1 ∧ H q.2.1 = some (.tup (p.1.map kV)) ∧ RelV p.2 q.2.2) kvs xs ∧
      ∃ o es ep, h.get? a = some o ∧ o.ExactDict ∧ o.data = .dict es ep ∧ es.toList = xs.map (entryOfKey (tupleKind (mixKind P w))) ∧ (xs.map (·.1)).Nodup
  | .set S n => h.SetOf (intKind P w) a S n
  | .ins C dx fs => H dx = some (.own a) ∧ fs.length ≤ 1000 ∧ dx ≠ a ∧ h.get? a = some (PySem.W.instObj C dx) ∧
      ∃ mA, h.Ns1 dx mA ∧ (∀ f, RelO (fs.lookup f) (mA f)) ∧ PySem.Within mA (fs.map (·.1))
  | .own _ => ∃ o, h.get? a = some o
  | .xd fs => ∃ mA, h.Ns1 a mA ∧ ∀ f, RelO (fs.lookup f) (mA f)
  | .rng lo hi => ∃ t u v, h.get? a = some { cls := .type "range", data := .fields #[.int lo t, .int hi u, .int 1 v] }
  | .frz o u => h.get? a = some o ∧ ObjOk H h a u
  | .tbl ps => h.get? a = some { cls := .none, data := .fields ps }
  | .met f x => h.get? a = some (PySem.W.methodObj (.ref f) (.ref x))
  | .ext φ => φ h ∧ (∃ o, h.get? a = some o) ∧ ∀ h1 h2 : Heap, φ h1 → (∀ o, h1.get? a = some o → h2.get? a = some o) → φ h2
def HOk (H : Hp) (h : Heap) : Prop := ∀ a o, H a = some o → ObjOk P w H h a o
end
section
variable {P : Program} {w : World} {H H' : Hp} {h h' : Heap} {a : Addr} {o : HO}
theorem ObjOk.lt (x : ObjOk P w H h a o) : a < h.objs.size := by
  cases o with
  | lst xs => obtain ⟨_, _, _, _, e⟩ := x; exact Heap.lt_size e
  | tup xs => obtain ⟨_, _, _, p⟩ := x; exact p.lt
  | dK kvs => obtain ⟨_, _, _, _, o, _, _, e, _⟩ := x; exact Heap.lt_size e
  | dT kvs => obtain ⟨_, _, _, _, o, _, _, e, _⟩ := x; exact Heap.lt_size e
  | set S n => obtain ⟨o, _, _, _, e, _⟩ := x; exact Heap.lt_size e
  | ins C dx fs => obtain ⟨_, _, _, e, _⟩ := x; exact Heap.lt_size e
  | own y => obtain ⟨_, e⟩ := x; exact Heap.lt_size e
  | xd fs => obtain ⟨_, ⟨_, _, _, e, _⟩, _⟩ := x; exact Heap.lt_size e
  | rng lo hi => obtain ⟨_, _, _, e⟩ := x; exact Heap.lt_size e
  | frz ob u => obtain ⟨e, _⟩ := x; exact Heap.lt_size e
  | tbl ps => exact Heap.lt_size (show h.get? a = some _ from x)
  | met f y => exact Heap.lt_size (show h.get? a = some _ from x)
  | ext φ => obtain ⟨_, ⟨_, e⟩, _⟩ := x; exact Heap.lt_size e
theorem Paired.mapP {α β : Type} {F G : α → β → Prop} : ∀ {l₁ : List α} {l₂ : List β}, Paired F l₁ l₂ → (∀ a b, F a b → G a b) → Paired G l₁ l₂
  | _, _, .nil, _ => .nil
  | _, _, .cons r t, f => .cons (f _ _ r) (Paired.mapP t f)
theorem ObjOk.stay (x : ObjOk P w H h a o) (k : ∀ b u, (b = a ∨ H b = some (.own a)) → h.get? b = some u → h'.get? b = some u)
    (ho : ∀ b, H b = some (.own a) → H' b = some (.own a)) (ht : ∀ b xs, H b = some (.tup xs) → H' b = some (.tup xs)) : ObjOk P w H' h' a o := by
  induction o with
  | lst xs => obtain ⟨z, its, n, r, e⟩ := x; exact ⟨z, its, n, r, k _ _ (.inl rfl) e⟩
  | tup xs => obtain ⟨z, its, r, ob, e, c⟩ := x; exact ⟨z, its, r, ob, k _ _ (.inl rfl) e, c⟩
  | dK kvs => obtain ⟨z, y, vs, r, ob, es, ep, e, c⟩ := x; exact ⟨z, y, vs, r, ob, es, ep, k _ _ (.inl rfl) e, c⟩
  | dT kvs =>
    obtain ⟨z, y, xs, r, ob, es, ep, e, c⟩ := x
    exact ⟨z, y, xs, Paired.mapP r fun p q z => ⟨z.1, ht _ _ z.2.1, z.2.2⟩, ob, es, ep, k _ _ (.inl rfl) e, c⟩
  | set S n => obtain ⟨ob, es, ep, t, e, c⟩ := x; exact ⟨ob, es, ep, t, k _ _ (.inl rfl) e, c⟩
  | ins C dx fs =>
    obtain ⟨d, z, ne, e, mA, ⟨od, es, ep, e2, c⟩, r⟩ := x
    exact ⟨ho _ d, z, ne, k _ _ (.inl rfl) e, mA, ⟨od, es, ep, k _ _ (.inr d) e2, c⟩, r⟩
  | own y => obtain ⟨ob, e⟩ := x; exact ⟨ob, k _ _ (.inl rfl) e⟩
  | xd fs => obtain ⟨mA, ⟨od, es, ep, e, c⟩, r⟩ := x; exact ⟨mA, ⟨od, es, ep, k _ _ (.inl rfl) e, c⟩, r⟩
  | rng lo hi => obtain ⟨t, u, v, e⟩ := x; exact ⟨t, u, v, k _ _ (.inl rfl) e⟩
  | frz ob u ih => obtain ⟨e, q⟩ := x; exact ⟨k _ _ (.inl rfl) e, ih q⟩
  | tbl ps =>
    have e : h.get? a = some { cls := .none, data := .fields ps } := x
    show h'.get? a = some { cls := .none, data := .fields ps }
    exact k a _ (.inl rfl) e
  | met f y =>
    have e : h.get? a = some (PySem.W.methodObj (.ref f) (.ref y)) := x
    show h'.get? a = some (PySem.W.methodObj (.ref f) (.ref y))
    exact k a _ (.inl rfl) e
  | ext φ => obtain ⟨p, ⟨o, e⟩, st⟩ := x; exact ⟨st _ _ p fun o q => k _ _ (.inl rfl) q, ⟨o, k _ _ (.inl rfl) e⟩, st⟩
theorem HOk.lt (x : HOk P w H h) (e : H a = some o) : a < h.objs.size := (x a o e).lt
theorem HOk.fresh (x : HOk P w H h) (e : h.objs.size ≤ a) : H a = none := by
  cases q : H a with
  | none => rfl
  | some u => exact absurd (Nat.lt_of_lt_of_le (x.lt q) e) (Nat.lt_irrefl _)
theorem HOk.kept (x : HOk P w H h) (k : ∀ b u, h.get? b = some u → h'.get? b = some u) : HOk P w H h' := fun a o e =>
  (x a o e).stay (fun b u _ q => k b u q) (fun _ q => q) fun _ _ q => q
theorem HOk.laid (x : HOk P w H h) (k : ∀ b u, h.get? b = some u → h'.get? b = some u) (hp : h.objs.size ≤ a) (new : ObjOk P w (upd H a o) h' a o) : HOk P w (upd H a o) h' := fun b u e => by
  have hn := x.fresh hp
  by_cases hb : b = a
  · subst hb; rw [upd_same] at e; cases e; exact new
  · rw [upd_ne hb] at e
    exact (x b u e).stay (fun c v _ q => k c v q) (fun c q => by rw [upd_ne (ne_of_none q hn)]; exact q) fun c xs q => by rw [upd_ne (ne_of_none q hn)]; exact q
end
def Rd (H : Hp) (a : Addr) (u : HO) : Prop := H a = some u ∨ ∃ o, H a = some (.frz o u)
theorem Rd.ok {P : Program} {w : World} {H : Hp} {h : Heap} {a : Addr} {u : HO} (r : Rd H a u) (x : HOk P w H h) : ObjOk P w H h a u := by
  rcases r with r | ⟨o, r⟩
  · exact x a u r
  · obtain ⟨_, q⟩ := x a _ r
    exact q
def Mut : Option HO → Prop
  | some (.lst _) => True
  | some (.dK _) => True
  | some (.dT _) => True
  | some (.set _ _) => True
  | some (.ins _ _ _) => True
  | some (.ext _) => True
  | _ => False
section
variable {P : Program} {w : World} {H : Hp} {h h' : Heap} {x e : Addr} {o' : HO}
theorem HOk.write (ok : HOk P w H h) (mu : Mut (H x)) (he : e = x ∨ H e = some (.own x)) (k : ∀ b u, b ≠ e → h.get? b = some u → h'.get? b = some u) (heo : ∃ u, h'.get? e = some u)
    (new : ObjOk P w (upd H x o') h' x o') : HOk P w (upd H x o') h' := fun b u q => by
  have nown : ∀ c y, H c = some (.own y) → c ≠ x := fun c y r z => by subst z; rw [r] at mu; exact mu
  have ntup : ∀ c xs, H c = some (.tup xs) → c ≠ x := fun c xs r z => by subst z; rw [r] at mu; exact mu
  by_cases hb : b = x
  · subst hb; rw [upd_same] at q; cases q; exact new
  · rw [upd_ne hb] at q
    by_cases hbe : b = e
    · have q' : H b = some (.own x) := by
        rcases he with z | z
        · exact absurd (hbe.trans z) hb
        · rw [hbe]; exact z
      rw [q] at q'; cases q'
      obtain ⟨v, hv⟩ := heo
      exact ⟨v, by rw [hbe]; exact hv⟩
    · refine (ok b u q).stay (fun c v hc r => k c v ?_ r) (fun c r => by rw [upd_ne (nown c b r)]; exact r) fun c xs r => by rw [upd_ne (ntup c xs r)]; exact r
      rcases hc with rfl | hc
      · exact hbe
      · rintro rfl
        rcases he with z | z
        · exact nown c b hc z
        · rw [hc] at z; cases z; exact hb rfl
end
structure Un (fs ex : List Addr) (H H' : Hp) (h h' : Heap) : Prop where
  keep : ∀ b o, h.get? b = some o → H b = none → b ∉ fs → b ∉ ex → h'.get? b = some o
  slot : ∀ b o, h.get? b = some o → H b = none → b ∈ fs → b ∉ ex → ∃ sl, h'.get? b = some { o with slots := sl }
  free : ∀ b o, h.get? b = some o → H b = none → b ∉ ex → H' b = none
  there : ∀ b o, h.get? b = some o → b ∉ ex → ∃ o', h'.get? b = some o'
  tups : ∀ b xs, H b = some (.tup xs) → H' b = some (.tup xs)
  frzs : ∀ b o u, H b = some (.frz o u) → H' b = some (.frz o u)
  tbls : ∀ b ps, H b = some (.tbl ps) → ∃ more, H' b = some (.tbl (ps ++ more))
section
variable {fs fs' ex ex' : List Addr} {H H1 H2 : Hp} {h h1 h2 h' : Heap} {a x e : Addr} {o : HO}
theorem Un.any (u : Un fs ex H H1 h h1) {b : Addr} {ob : Obj} (q : h.get? b = some ob) (n : H b = none) (hx : b ∉ ex) : ∃ sl, h1.get? b = some { ob with slots := sl } := by
  by_cases hb : b ∈ fs
  · exact u.slot b ob q n hb hx
  · exact ⟨ob.slots, u.keep b ob q n hb hx⟩
theorem Un.kept (k : ∀ b u, h.get? b = some u → h'.get? b = some u) : Un fs ex H H h h' :=
  ⟨fun b ob q _ _ _ => k b ob q, fun b ob q _ _ _ => ⟨ob.slots, k b ob q⟩, fun _ _ _ n _ => n, fun b ob q _ => ⟨ob, k b ob q⟩, fun _ _ q => q, fun _ _ _ q => q, fun _ ps q => ⟨#[], by rw [q]; simp⟩⟩
theorem Un.refl : Un fs ex H H h h := Un.kept fun _ _ q => q
theorem Un.laid (k : ∀ b u, h.get? b = some u → h'.get? b = some u) (hp : h.objs.size ≤ a) (hn : H a = none) : Un fs ex H (upd H a o) h h' where
  keep := fun b u q _ _ _ => k b u q
  slot := fun b u q _ _ _ => ⟨u.slots, k b u q⟩
  free := fun b u q n _ => by rw [upd_ne (Nat.ne_of_lt (Nat.lt_of_lt_of_le (Heap.lt_size q) hp))]; exact n
  there := fun b u q _ => ⟨u, k b u q⟩
  tups := fun b xs q => by rw [upd_ne (ne_of_none q hn)]; exact q
  frzs := fun b u xs q => by rw [upd_ne (ne_of_none q hn)]; exact q
  tbls := fun b ps q => ⟨#[], by rw [upd_ne (ne_of_none q hn), q]; simp⟩
theorem Un.write (mu : Mut (H x)) (he : e = x ∨ H e = some (.own x)) (k : ∀ b u, b ≠ e → h.get? b = some u → h'.get? b = some u) (heo : ∃ u, h'.get? e = some u) : Un fs ex H (upd H x o) h h' := by
  have hx : ∀ b, H b = none → b ≠ x := fun b n z => by subst z; rw [n] at mu; exact mu
  have hb : ∀ b, H b = none → b ≠ e := fun b n z => by
    subst z
    rcases he with r | r
    · exact hx b n r
    · rw [n] at r; cases r
  have hm : ∀ b u, H b = some u → ¬ Mut (some u) → b ≠ x := fun b u q nm z => by subst z; rw [q] at mu; exact nm mu
  refine ⟨fun b u q n _ _ => k b u (hb b n) q, fun b u q n _ _ => ⟨u.slots, k b u (hb b n) q⟩, fun b u q n _ => by rw [upd_ne (hx b n)]; exact n, fun b u q _ => ?_,
    fun b xs q => by rw [upd_ne (hm b _ q fun z => z)]; exact q, fun b u xs q => by rw [upd_ne (hm b _ q fun z => z)]; exact q, fun b ps q => ⟨#[], by rw [upd_ne (hm b _ q fun z => z), q]; simp⟩⟩
  by_cases hbe : b = e
  · subst hbe; exact heo
  · exact ⟨u, k b u hbe q⟩
end
def trk (h : Heap) (H : Hp) : List Addr := (List.range h.objs.size).filter fun a => (H a).isSome
def hidT (h : Heap) (H : Hp) : Heap := PySem.W.hideAll h (trk h H)
theorem hidT_size (h : Heap) (H : Hp) : (hidT h H).objs.size = h.objs.size := PySem.W.hideAll_size _ _
theorem hidT_get {h : Heap} {H : Hp} {b : Addr} {o : Obj} (e : h.get? b = some o) (n : H b = none) : (hidT h H).get? b = some o :=
  PySem.W.hideAll_get _ e fun hm => by
    have q : (H b).isSome = true := (List.mem_filter.mp hm).2
    rw [n] at q; simp at q
theorem of_hidT {h : Heap} {H : Hp} {b : Addr} {o : Obj} (e : (hidT h H).get? b = some o) : h.get? b = some o ∧ H b = none := by
  have e' : h.get? b = some o := PySem.W.of_hideAll (trk h H) e
  refine ⟨e', ?_⟩
  cases q : H b with
  | none => rfl
  | some x =>
    have hm : b ∈ trk h H := List.mem_filter.mpr ⟨List.mem_range.mpr (Heap.lt_size e'), by simp [q]⟩
    have z : (hidT h H).get? b = none := PySem.W.hideAll_none (trk h H) hm
    rw [z] at e; cases e
def allNews (g h : Heap) (L : Addr) : List (Addr × Obj) := (List.range h.objs.size).filterMap fun a => if a = L ∨ (g.get? a).isSome = true then none else (h.get? a).map fun o => (a, o)
def rest (g h : Heap) (L d : Addr) : List (Addr × Obj) := (allNews g h L).filter fun p => decide (p.1 ≠ d)
end L2
namespace L2
open PySem PySem.Spec PyProof.Rows
structure Mod (K : PySem.W.Frag) (mg : Str → Option Value) (base : Heap) : Prop where
  kin : K.In base
  glob : base.Ns mainGlobals mg
  blt : ∃ mb, base.Ns builtinsNs mb ∧ ∀ x : Str, x ≠ "__name__" → mb x = bootBuiltins x
  nolimit : base.NoLimit
structure Cx where
  prog : Program
  w : World
  K : PySem.W.Frag
  mg : Str → Option Value
  base : Heap
  A : Around
  N : List Str
  s₀ : Shared
  H₀ : Hp
  env : Env
  outer : List Env
  stack : List Env
  ex : List Addr
  fn : Str → Bool
  calm : Bool
  pn : List (Addr × Obj)
  xe : Value → Shared → Prop
def frs (l : List Env) : List Addr := l.filterMap (·.frame)
abbrev Cx.fs (X : Cx) : List Addr := frs X.outer
def Vis (sc : Scope) (x : Str) : Prop := sc.names.lookup x = some .local ∨ sc.names.lookup x = some .cell ∨ sc.names.lookup x = some .free
def Loc (sc : Scope) (x : Str) : Prop := sc.names.lookup x = some .local ∨ sc.names.lookup x = some .cell
def Look (env : Env) (h : Heap) (m : Str → Option Value) (x : Str) (u : Value) : Prop :=
  (env.kindOf x = some .local ∧ m x = some u) ∨ ((env.kindOf x = some .cell ∨ env.kindOf x = some .free) ∧ ∃ c, env.cells.lookup x = some c ∧ h.IsCell c (some u))
structure Cx.Ok (X : Cx) : Prop where
  mod : Mod X.K X.mg X.base
  kind : X.env.scope.kind = .function
  glob : X.env.globals = mainGlobals
  blt : X.env.builtins = builtinsNs
  above : X.s₀.heap.objs.size ≤ X.env.locals
  inj : ∀ x y c, X.env.cells.lookup x = some c → X.env.cells.lookup y = some c → x = y
  has : ∀ x, (X.env.kindOf x = some .cell ∨ X.env.kindOf x = some .free) → ∃ c, X.env.cells.lookup x = some c
  cab : ∀ x c, X.fn x = true → X.env.cells.lookup x = some c → X.s₀.heap.objs.size ≤ c
  hd : X.calm = true → X.A.handled = none
  frames : X.A.frames = some X.stack
  stk : X.stack = X.outer ∨ (X.stack = X.env :: X.outer ∧ X.env.frame = some X.env.locals)
  exf : ∀ b ∈ X.ex, b ≠ X.env.locals ∧ ∀ x c, X.env.cells.lookup x = some c → c ≠ b
  bs : ∀ b o, X.base.get? b = some o → X.s₀.heap.get? b = some o ∧ X.H₀ b = none
  bsz : X.base.objs.size ≤ X.s₀.heap.objs.size
  noex : ∀ b o, X.base.get? b = some o → b ∉ X.ex
  exfs : ∀ b ∈ X.ex, b ∉ X.fs
  funs : X.s₀.heap.FunFrames X.base X.outer
  frf : ∀ b ∈ X.fs, X.H₀ b = none
structure Inv (X : Cx) (pins : List (Addr × Obj)) (σ : List (Option V)) (H : Hp) (s : Shared) : Prop where
  ok : X.Ok
  os : s.os = X.s₀.os
  bare : AllBare s.gens
  base : Un X.fs X.ex X.H₀ H X.s₀.heap s.heap
  loc : ∃ m, s.heap.Ns X.env.locals m ∧ ∀ (i : Nat) (x : Str) (v : V), X.N[i]? = some x → σ[i]? = some (some v) → Vis X.env.scope x → ∃ u, RelV v u ∧ Look X.env s.heap m x u
  cell : ∀ x c, X.env.cells.lookup x = some c → ∃ v, s.heap.IsCell c v
  free : H X.env.locals = none
  freeC : ∀ x c, X.env.cells.lookup x = some c → H c = none
  pin : ∀ p ∈ X.pn ++ pins, s.heap.get? p.1 = some p.2 ∧ H p.1 = none ∧ p.1 ≠ X.env.locals ∧ p.1 ∉ X.fs ∧ ∀ v, p.2.data ≠ .cell v
  hok : HOk X.prog X.w H s.heap
  len : σ.length = X.N.length
section
variable {X : Cx} {pins : List (Addr × Obj)} {σ : List (Option V)} {H H' : Hp} {s : Shared} {h' : Heap}
theorem Cx.Ok.nofr (ok : X.Ok) {b : Addr} {o : Obj} (e : X.base.get? b = some o) : b ∉ X.fs := fun hb => by
  have := (ok.funs.mem hb).1
  rw [e] at this; cases this
theorem Inv.bs (I : Inv X pins σ H s) : ∀ b o, X.base.get? b = some o → s.heap.get? b = some o ∧ H b = none := fun b o e =>
  ⟨I.base.keep b o (I.ok.bs b o e).1 (I.ok.bs b o e).2 (I.ok.nofr e) (I.ok.noex b o e), I.base.free b o (I.ok.bs b o e).1 (I.ok.bs b o e).2 (I.ok.noex b o e)⟩
theorem Inv.bk (I : Inv X pins σ H s) : ∀ b o, X.base.get? b = some o → s.heap.get? b = some o := fun b o e => (I.bs b o e).1
theorem Inv.mod (I : Inv X pins σ H s) : Mod X.K X.mg X.base := I.ok.mod
theorem Inv.kIn (I : Inv X pins σ H s) : X.K.In s.heap := I.ok.mod.kin.keeps I.bk
theorem Inv.lt (I : Inv X pins σ H s) : X.env.locals < s.heap.objs.size := let ⟨_, hn, _⟩ := I.loc; hn.lt
theorem Inv.sz (I : Inv X pins σ H s) : X.s₀.heap.objs.size ≤ s.heap.objs.size := Nat.le_trans I.ok.above (Nat.le_of_lt I.lt)
theorem Inv.nofs (I : Inv X pins σ H s) {a : Addr} (h : s.heap.objs.size ≤ a) : a ∉ X.fs := fun hb => by
  obtain ⟨_, o, ho, _⟩ := I.ok.funs.mem hb
  exact absurd (Nat.lt_of_lt_of_le (Heap.lt_size ho) (Nat.le_trans I.sz h)) (Nat.lt_irrefl _)
theorem Inv.cne (I : Inv X pins σ H s) : ∀ x c, X.env.cells.lookup x = some c → c ≠ X.env.locals := fun x c e z => by
  obtain ⟨v, o, ho, hd⟩ := I.cell x c e
  obtain ⟨m, ⟨o', es, ep, ho', hd', _⟩, _⟩ := I.loc
  rw [z, ho'] at ho; cases ho; rw [hd'] at hd; cases hd
theorem Inv.funs (I : Inv X pins σ H s) : s.heap.FunFrames X.base X.outer := by
  have all : ∀ (l : List Env), (∀ b ∈ frs l, b ∈ X.fs) → X.s₀.heap.FunFrames X.base l → s.heap.FunFrames X.base l := by
    intro l
    induction l with
    | nil => intro _ _; trivial
    | cons env r ih =>
      intro hs hl
      obtain ⟨hk, ⟨L, o, hf, hn, ho, hd⟩, hr⟩ := hl
      have hL : L ∈ X.fs := hs L (by unfold frs; rw [List.filterMap_cons, hf]; exact List.mem_cons_self)
      obtain ⟨sl, e⟩ := I.base.slot L o ho (I.ok.frf L hL) hL fun z => I.ok.exfs L z hL
      exact ⟨hk, ⟨L, _, hf, hn, e, hd⟩, ih (fun b hb => hs b (by unfold frs; rw [List.filterMap_cons, hf]; exact List.mem_cons_of_mem _ hb)) hr⟩
  exact all X.outer (fun _ hb => hb) I.ok.funs
theorem Inv.stack (I : Inv X pins σ H s) : s.heap.FunFrames X.base X.stack := by
  rcases I.ok.stk with e | ⟨e, hf⟩
  · rw [e]; exact I.funs
  · rw [e]
    obtain ⟨m, hn, _⟩ := I.loc
    refine .cons (by rw [I.ok.kind]; decide) hf hn ?_ I.funs
    exact Heap.get?_none_of_le (Nat.le_trans I.ok.bsz I.ok.above)
theorem Inv.stkSub (I : Inv X pins σ H s) : ∀ b ∈ frs X.stack, b ∈ X.env.locals :: X.fs := fun b hb => by
  rcases I.ok.stk with e | ⟨e, hf⟩
  · rw [e] at hb; exact List.mem_cons_of_mem _ hb
  · rw [e] at hb
    unfold frs at hb
    rw [List.filterMap_cons, hf] at hb
    exact hb
theorem Inv.stkFree (I : Inv X pins σ H s) : ∀ b ∈ frs X.stack, H b = none := fun b hb => by
  rcases List.mem_cons.mp (I.stkSub b hb) with e | hb
  · rw [e]; exact I.free
  · obtain ⟨_, o, ho, _⟩ := I.ok.funs.mem hb
    exact I.base.free b o ho (I.ok.frf b hb) fun z => I.ok.exfs b z hb
theorem Inv.step {g' : Array GenState} {t' : Nat} {d' : Drawn} {ch : List Addr} (I : Inv X pins σ H s)
    (hch : ∀ b ∈ ch, (b ∈ X.ex ∨ X.s₀.heap.objs.size ≤ b) ∧ b ≠ X.env.locals ∧ (∀ x c, X.env.cells.lookup x = some c → c ≠ b) ∧ ∀ p ∈ X.pn ++ pins, p.1 ≠ b)
    (keep : ∀ b o, b ≠ X.env.locals → b ∉ X.fs → b ∉ ch → s.heap.get? b = some o → H b = none → h'.get? b = some o)
    (slot : ∀ b o, b ≠ X.env.locals → b ∈ X.fs → b ∉ ch → s.heap.get? b = some o → H b = none → ∃ sl, h'.get? b = some { o with slots := sl }) (free : ∀ b o, b ∉ ch → s.heap.get? b = some o → H b = none → H' b = none)
    (there : ∀ b o, b ∉ ch → s.heap.get? b = some o → ∃ o', h'.get? b = some o')
    (tups : ∀ b xs, H b = some (.tup xs) → H' b = some (.tup xs)) (frzs : ∀ b o u, H b = some (.frz o u) → H' b = some (.frz o u)) (tbls : ∀ b ps, H b = some (.tbl ps) → ∃ more, H' b = some (.tbl (ps ++ more)))
    (ns : ∀ m, s.heap.Ns X.env.locals m → h'.Ns X.env.locals m) (hok : HOk X.prog X.w H' h') (hg : AllBare g') :
    Inv X pins σ H' { s with heap := h', gens := g', drawn := d', toks := t' } := by
  have neL : ∀ b o, X.s₀.heap.get? b = some o → b ≠ X.env.locals := fun b o e => Nat.ne_of_lt (Nat.lt_of_lt_of_le (Heap.lt_size e) I.ok.above)
  have neC : ∀ b o, X.s₀.heap.get? b = some o → b ∉ X.ex → b ∉ ch := fun b o e hx hb => by
    rcases (hch b hb).1 with z | z
    · exact hx z
    · exact absurd (Nat.lt_of_lt_of_le (Heap.lt_size e) z) (Nat.lt_irrefl _)
  have cellK : ∀ x c, X.env.cells.lookup x = some c → ∀ v, s.heap.IsCell c v → h'.IsCell c v := fun x c e v ⟨o, ho, hd⟩ => by
    have nch : c ∉ ch := fun z => (hch c z).2.2.1 x c e rfl
    by_cases hc : c ∈ X.fs
    · obtain ⟨sl, q⟩ := slot c o (I.cne x c e) hc nch ho (I.freeC x c e)
      exact ⟨_, q, hd⟩
    · exact ⟨o, keep c o (I.cne x c e) hc nch ho (I.freeC x c e), hd⟩
  refine ⟨I.ok, I.os, hg, ⟨fun b o e n hb hx => ?_, fun b o e n hb hx => ?_, fun b o e n hx => ?_, fun b o e hx => ?_, fun b xs e => tups b xs (I.base.tups b xs e), fun b o xs e => frzs b o xs (I.base.frzs b o xs e), fun b ps e => ?_⟩, ?_, fun x c e => ?_, ?_, fun x c e => ?_, fun p hp => ?_, hok, I.len⟩
  · exact keep b o (neL b o e) hb (neC b o e hx) (I.base.keep b o e n hb hx) (I.base.free b o e n hx)
  · obtain ⟨sl, e1⟩ := I.base.slot b o e n hb hx
    obtain ⟨sl', e2⟩ := slot b _ (neL b o e) hb (neC b o e hx) e1 (I.base.free b o e n hx)
    exact ⟨sl', e2⟩
  · obtain ⟨o', e1⟩ := I.base.there b o e hx
    exact free b o' (neC b o e hx) e1 (I.base.free b o e n hx)
  · obtain ⟨o', e1⟩ := I.base.there b o e hx
    exact there b o' (neC b o e hx) e1
  · obtain ⟨m1, e1⟩ := I.base.tbls b ps e
    obtain ⟨m2, e2⟩ := tbls b _ e1
    exact ⟨m1 ++ m2, by rw [e2, Array.append_assoc]⟩
  · obtain ⟨m, hn, hl⟩ := I.loc
    refine ⟨m, ns m hn, fun i x v e1 e2 e3 => ?_⟩
    obtain ⟨u, r, l⟩ := hl i x v e1 e2 e3
    refine ⟨u, r, ?_⟩
    rcases l with l | ⟨k, c, e, z⟩
    · exact .inl l
    · exact .inr ⟨k, c, e, cellK x c e _ z⟩
  · obtain ⟨v, z⟩ := I.cell x c e
    exact ⟨v, cellK x c e v z⟩
  · obtain ⟨m, ⟨o, _, _, ho, _⟩, _⟩ := I.loc
    exact free _ o (fun z => (hch _ z).2.1 rfl) ho I.free
  · obtain ⟨v, o, ho, hd⟩ := I.cell x c e
    exact free c o (fun z => (hch c z).2.2.1 x c e rfl) ho (I.freeC x c e)
  · obtain ⟨e, n, ne, nf, d⟩ := I.pin p hp
    have nch : p.1 ∉ ch := fun z => (hch p.1 z).2.2.2 p hp rfl
    exact ⟨keep p.1 p.2 ne nf nch e n, free p.1 p.2 nch e n, ne, nf, d⟩
theorem Inv.un {t' : Nat} (I : Inv X pins σ H s) (u : Un X.fs [] H H' s.heap h') (hok : HOk X.prog X.w H' h') : Inv X pins σ H' { s with heap := h', toks := t' } := by
  obtain ⟨m, ⟨o, es, ep, ho, r⟩, _⟩ := id I.loc
  obtain ⟨sl, hL⟩ := u.any ho I.free (by simp)
  exact I.step (g' := s.gens) (d' := s.drawn) (ch := []) (fun _ z => nomatch z) (fun b o _ hb _ e n => u.keep b o e n hb (by simp)) (fun b o _ hb _ e n => u.slot b o e n hb (by simp)) (fun b o _ e n => u.free b o e n (by simp)) (fun b o _ e => u.there b o e (by simp)) u.tups u.frzs u.tbls (fun m' hm => by
    obtain ⟨o', es', ep', ho', r'⟩ := hm
    rw [ho] at ho'; cases ho'
    exact ⟨_, es', ep', hL, r'⟩) hok I.bare
theorem Inv.call {g' : Array GenState} {t' : Nat} {d' : Drawn} {ch : List Addr} (I : Inv X pins σ H s) (u : Un (frs X.stack) ch H H' s.heap h') (hok : HOk X.prog X.w H' h') (hg : AllBare g')
    (hch : ∀ b ∈ ch, (b ∈ X.ex ∨ X.s₀.heap.objs.size ≤ b) ∧ b ≠ X.env.locals ∧ (∀ x c, X.env.cells.lookup x = some c → c ≠ b) ∧ ∀ p ∈ X.pn ++ pins, p.1 ≠ b) :
    Inv X pins σ H' { s with heap := h', gens := g', drawn := d', toks := t' } := by
  obtain ⟨m, ⟨o, es, ep, ho, r⟩, _⟩ := id I.loc
  obtain ⟨sl, hL⟩ := u.any ho I.free fun z => (hch _ z).2.1 rfl
  exact I.step (ch := ch) hch (fun b o hL hb hc e n => u.keep b o e n (fun z => (List.mem_cons.mp (I.stkSub b z)).elim hL hb) hc) (fun b o _ _ hc e n => u.any e n hc) (fun b o hc e n => u.free b o e n hc) (fun b o hc e => u.there b o e hc) u.tups u.frzs u.tbls (fun m' hm => by
    obtain ⟨o', es', ep', ho', r'⟩ := hm
    rw [ho] at ho'; cases ho'
    exact ⟨_, es', ep', hL, r'⟩) hok hg
theorem Inv.turned {t' : Nat} {it : Addr} (I : Inv X pins σ H s) (k : ∀ b o, b ≠ it → s.heap.get? b = some o → h'.get? b = some o) (hn : H it = none) (hL : it ≠ X.env.locals)
    (h1 : it ∈ X.ex ∨ X.s₀.heap.objs.size ≤ it) (h2 : ∀ x c, X.env.cells.lookup x = some c → c ≠ it) (h3 : ∀ p ∈ X.pn ++ pins, p.1 ≠ it) : Inv X pins σ H { s with heap := h', toks := t' } := by
  have nit : ∀ b u, H b = some u → b ≠ it := fun b u e z => by rw [z, hn] at e; cases e
  refine I.step (g' := s.gens) (d' := s.drawn) (ch := [it]) (fun b hb => ?_) (fun b o _ _ hc e _ => k b o (fun z => hc (by simp [z])) e) (fun b o _ _ hc e _ => ⟨o.slots, k b o (fun z => hc (by simp [z])) e⟩) (fun _ _ _ _ n => n)
    (fun b o hc e => ⟨o, k b o (fun z => hc (by simp [z])) e⟩) (fun _ _ e => e) (fun _ _ _ e => e) (fun b ps e => ⟨#[], by rw [e]; simp⟩) (fun m hm => ?_) (fun b u e => ?_) I.bare
  · have e : b = it := by simpa using hb
    subst e
    exact ⟨h1, hL, h2, h3⟩
  · obtain ⟨o, es, ep, ho, r⟩ := hm
    exact ⟨o, es, ep, k _ o (Ne.symm hL) ho, r⟩
  · refine (I.hok b u e).stay (fun c v hc q => k c v ?_ q) (fun _ q => q) fun _ _ q => q
    rcases hc with z | z
    · rw [z]; exact nit b u e
    · exact nit c _ z
theorem Inv.tok (I : Inv X pins σ H s) (t : Nat) : Inv X pins σ H { s with toks := t } := I.un (h' := s.heap) (t' := t) Un.refl I.hok
theorem Inv.kept {t' : Nat} (I : Inv X pins σ H s) (k : ∀ b u, s.heap.get? b = some u → h'.get? b = some u) : Inv X pins σ H { s with heap := h', toks := t' } := I.un (Un.kept k) (I.hok.kept k)
theorem Inv.laid {a : Addr} {o : HO} {t' : Nat} (I : Inv X pins σ H s) (k : ∀ b u, s.heap.get? b = some u → h'.get? b = some u) (hp : s.heap.objs.size ≤ a) (new : ObjOk X.prog X.w (upd H a o) h' a o) :
    Inv X pins σ (upd H a o) { s with heap := h', toks := t' } := I.un (Un.laid k hp (I.hok.fresh hp)) (I.hok.laid k hp new)
theorem Inv.write {x e : Addr} {o : HO} {t' : Nat} (I : Inv X pins σ H s) (mu : Mut (H x)) (he : e = x ∨ H e = some (.own x)) (k : ∀ b u, b ≠ e → s.heap.get? b = some u → h'.get? b = some u) (heo : ∃ u, h'.get? e = some u)
    (new : ObjOk X.prog X.w (upd H x o) h' x o) : Inv X pins σ (upd H x o) { s with heap := h', toks := t' } := I.un (Un.write mu he k heo) (I.hok.write mu he k heo new)
theorem Inv.weak {σ' : List (Option V)} (I : Inv X pins σ H s) (hl : σ'.length = σ.length) (w : ∀ (i : Nat) v, σ'[i]? = some (some v) → σ[i]? = some (some v)) : Inv X pins σ' H s :=
  ⟨I.ok, I.os, I.bare, I.base, let ⟨m, hn, hl'⟩ := I.loc; ⟨m, hn, fun i x v e1 e2 e3 => hl' i x v e1 (w i v e2) e3⟩, I.cell, I.free, I.freeC, I.pin, I.hok, hl.trans I.len⟩
theorem Inv.pins_of {pins' : List (Addr × Obj)} (I : Inv X pins σ H s) (h : ∀ p ∈ pins', s.heap.get? p.1 = some p.2 ∧ H p.1 = none ∧ p.1 ≠ X.env.locals ∧ p.1 ∉ X.fs ∧ ∀ v, p.2.data ≠ .cell v) : Inv X pins' σ H s :=
  ⟨I.ok, I.os, I.bare, I.base, I.loc, I.cell, I.free, I.freeC, fun p hp => (List.mem_append.mp hp).elim (fun z => I.pin p (List.mem_append_left _ z)) (h p), I.hok, I.len⟩
theorem nodup_ix {N : List Str} (hN : N.Nodup) {i j : Nat} {x : Str} (a : N[i]? = some x) (b : N[j]? = some x) : i = j := by
  obtain ⟨h1, e1⟩ := List.getElem?_eq_some_iff.mp a
  obtain ⟨h2, e2⟩ := List.getElem?_eq_some_iff.mp b
  exact (List.getElem_inj hN).mp (e1.trans e2.symm)
theorem store_ok2 {M : Model} {A : Around} {E : Value → Shared → Prop} {i : Nat} {x : Str} {v : V} {u : Value} {Q : Unit → Shared → Prop} (I : Inv X pins σ H s) (hN : X.N.Nodup) (hi : X.N[i]? = some x) (hx : Loc X.env.scope x) (r : RelV v u)
    (h : ∀ s', Inv X pins (σ.set i (some v)) H s' → (∃ a, Heap.SameBut a s.heap s'.heap ∧ (a = X.env.locals ∨ X.env.cells.lookup x = some a)) → Q () s') (hf : X.fn x = true ∨ X.env.scope.names.lookup x = some .local := by first | exact .inl rfl | exact .inr rfl | assumption) : wpAny M A (storeName X.env x u) Q E s := by
  obtain ⟨m, hn, hl⟩ := id I.loc
  have hcls : (X.env.scope.kind == .class || (X.env.scope.kind == .module && X.env.locals != X.env.globals)) = false := by rw [I.ok.kind]; rfl
  have hiσ : i < σ.length := by rw [I.len]; exact (List.getElem?_eq_some_iff.mp hi).1
  have cne := I.cne
  have tracked : ∀ {a : Addr} {h' : Heap}, (∃ o, s.heap.get? a = some o ∧ H a = none) → Heap.SameBut a s.heap h' → HOk X.prog X.w H h' := fun {a h'} ha hs b ob e => by
    obtain ⟨_, _, hfree⟩ := ha
    refine (I.hok b ob e).stay (fun c w' hc q => (hs.2 c ?_).trans q) (fun _ q => q) fun _ _ q => q
    rintro rfl
    rcases hc with rfl | hc
    · rw [hfree] at e; cases e
    · rw [hfree] at hc; cases hc
  rcases hx with hk | hk
  · refine wpAny_storeName_local hk hn (fun h' hn' hs => ?_) hcls
    obtain ⟨oL, _, _, hoL, _⟩ := id hn
    refine h _ ⟨I.ok, I.os, I.bare, ⟨fun b o e n hb hx => ?_, fun b o e n hb hx => ?_, I.base.free, fun b o e hx => ?_, I.base.tups, I.base.frzs, I.base.tbls⟩, ⟨_, hn', fun j y v' e1 e2 e3 => ?_⟩, fun y c e => ?_, I.free, I.freeC, fun p hp => ?_, tracked ⟨oL, hoL, I.free⟩ hs, by simpa using I.len⟩ ⟨_, hs, .inl rfl⟩
    · exact (hs.2 b (Nat.ne_of_lt (Nat.lt_of_lt_of_le (Heap.lt_size e) I.ok.above))).trans (I.base.keep b o e n hb hx)
    · obtain ⟨sl, e1⟩ := I.base.slot b o e n hb hx
      exact ⟨sl, (hs.2 b (Nat.ne_of_lt (Nat.lt_of_lt_of_le (Heap.lt_size e) I.ok.above))).trans e1⟩
    · obtain ⟨o', e1⟩ := I.base.there b o e hx
      exact ⟨o', (hs.2 b (Nat.ne_of_lt (Nat.lt_of_lt_of_le (Heap.lt_size e) I.ok.above))).trans e1⟩
    · by_cases hj : j = i
      · subst hj
        rw [hi] at e1; cases e1
        rw [List.getElem?_set_self hiσ] at e2
        cases e2
        exact ⟨u, r, .inl ⟨hk, by simp⟩⟩
      · rw [List.getElem?_set_ne (Ne.symm hj)] at e2
        obtain ⟨u', r', q⟩ := hl j y v' e1 e2 e3
        refine ⟨u', r', ?_⟩
        rcases q with ⟨k, e⟩ | ⟨k, c, e, z⟩
        · refine .inl ⟨k, ?_⟩
          have : y ≠ x := fun e => hj (nodup_ix hN e1 (e ▸ hi))
          simp [this, e]
        · exact .inr ⟨k, c, e, z.sameBut hs (cne y c e)⟩
    · obtain ⟨w', z⟩ := I.cell y c e
      exact ⟨w', z.sameBut hs (cne y c e)⟩
    · obtain ⟨e, n, ne, nf, d⟩ := I.pin p hp
      exact ⟨(hs.2 p.1 ne).trans e, n, ne, nf, d⟩
  · have hfn : X.fn x = true := by
      rcases hf with z | z
      · exact z
      · rw [z] at hk; cases hk
    obtain ⟨c, hc⟩ := I.ok.has x (.inl hk)
    obtain ⟨w', z⟩ := I.cell x c hc
    refine wpAny_storeName_cell I.ok.kind hk hc z (fun h' hc' hs => ?_)
    obtain ⟨oc, hoc, hocd⟩ := id z
    refine h { s with heap := h' } ⟨I.ok, I.os, I.bare, ⟨fun b o e n hb hx => ?_, fun b o e n hb hx => ?_, I.base.free, fun b o e hx => ?_, I.base.tups, I.base.frzs, I.base.tbls⟩, ⟨m, hn.sameBut hs (Ne.symm (cne x c hc)), fun j y v' e1 e2 e3 => ?_⟩, fun y c' e => ?_, I.free, I.freeC, fun p hp => ?_, tracked ⟨oc, hoc, I.freeC x c hc⟩ hs, by simpa using I.len⟩ ⟨c, hs, .inr hc⟩
    · exact (hs.2 b (Nat.ne_of_lt (Nat.lt_of_lt_of_le (Heap.lt_size e) (I.ok.cab x c hfn hc)))).trans (I.base.keep b o e n hb hx)
    · obtain ⟨sl, e1⟩ := I.base.slot b o e n hb hx
      exact ⟨sl, (hs.2 b (Nat.ne_of_lt (Nat.lt_of_lt_of_le (Heap.lt_size e) (I.ok.cab x c hfn hc)))).trans e1⟩
    · obtain ⟨o', e1⟩ := I.base.there b o e hx
      exact ⟨o', (hs.2 b (Nat.ne_of_lt (Nat.lt_of_lt_of_le (Heap.lt_size e) (I.ok.cab x c hfn hc)))).trans e1⟩
    · by_cases hj : j = i
      · subst hj
        rw [hi] at e1; cases e1
        rw [List.getElem?_set_self hiσ] at e2
        cases e2
        exact ⟨u, r, .inr ⟨.inl hk, c, hc, hc'⟩⟩
      · rw [List.getElem?_set_ne (Ne.symm hj)] at e2
        obtain ⟨u', r', q⟩ := hl j y v' e1 e2 e3
        refine ⟨u', r', ?_⟩
        rcases q with q | ⟨k, c', e, z'⟩
        · exact .inl q
        · refine .inr ⟨k, c', e, z'.sameBut hs ?_⟩
          rintro rfl
          exact hj (nodup_ix hN e1 (I.ok.inj _ _ _ e hc ▸ hi))
    · by_cases hcc : c' = c
      · subst hcc; exact ⟨_, hc'⟩
      · obtain ⟨w2, z2⟩ := I.cell y c' e
        exact ⟨w2, z2.sameBut hs hcc⟩
    · obtain ⟨e, n, ne, nf, d⟩ := I.pin p hp
      refine ⟨(hs.2 p.1 ?_).trans e, n, ne, nf, d⟩
      intro q
      rw [q, hoc] at e
      have q' : oc = p.2 := Option.some.inj e
      exact d w' (by rw [← q']; exact hocd)
theorem store_ok {M : Model} {A : Around} {E : Value → Shared → Prop} {i : Nat} {x : Str} {v : V} {u : Value} {Q : Unit → Shared → Prop} (I : Inv X pins σ H s) (hN : X.N.Nodup) (hi : X.N[i]? = some x) (hx : Loc X.env.scope x) (r : RelV v u)
    (h : ∀ s', Inv X pins (σ.set i (some v)) H s' → Q () s') (hf : X.fn x = true ∨ X.env.scope.names.lookup x = some .local := by first | exact .inl rfl | exact .inr rfl | assumption) : wpAny M A (storeName X.env x u) Q E s :=
  store_ok2 I hN hi hx r (fun s' I' _ => h s' I') hf
theorem Inv.call' {s' : Shared} {ch : List Addr} (I : Inv X pins σ H s) (ho : s'.os = s.os) (u : Un (frs X.stack) ch H H' s.heap s'.heap) (hok : HOk X.prog X.w H' s'.heap) (hg : AllBare s'.gens)
    (hch : ∀ b ∈ ch, (b ∈ X.ex ∨ X.s₀.heap.objs.size ≤ b) ∧ b ≠ X.env.locals ∧ (∀ x c, X.env.cells.lookup x = some c → c ≠ b) ∧ ∀ p ∈ X.pn ++ pins, p.1 ≠ b) : Inv X pins σ H' s' := by
  obtain ⟨h', g', d', t', o'⟩ := s'
  have e : o' = s.os := ho
  subst e
  exact I.call (g' := g') (t' := t') (d' := d') u hok hg hch
end
abbrev XK := Value → Option Addr → Hp → Prop
abbrev St := List (Option V)
abbrev VK := V → Hp → Prop
abbrev TE := St → Hp → VK → Prop
abbrev TT := St → Hp → (Bool → Hp → Prop) → Prop
abbrev TA := St → Hp → (List V → Hp → Prop) → Prop
structure Ends where
  nx : St → Hp → Prop
  rt : VK
  bk : St → Hp → Prop := fun _ _ => False
  ct : St → Hp → Prop := fun _ _ => False
abbrev TS := Ends → St → Hp → Prop
def EP (X : Cx) (pins : List (Addr × Obj)) (σ : St) (Q : VK) (u : Value) (s' : Shared) : Prop := ∃ v H', Inv X pins σ H' s' ∧ RelV v u ∧ Q v H'
def TP (X : Cx) (pins : List (Addr × Obj)) (σ : St) (Q : Bool → Hp → Prop) (b : Bool) (s' : Shared) : Prop := ∃ H', Inv X pins σ H' s' ∧ Q b H'
def AP (X : Cx) (pins : List (Addr × Obj)) (σ : St) (Q : List V → Hp → Prop) (us : List Value) (s' : Shared) : Prop := ∃ vs H', Inv X pins σ H' s' ∧ Vals vs us ∧ Q vs H'
def SP (X : Cx) (pins : List (Addr × Obj)) (D : Ends) (f : Flow) (s' : Shared) : Prop :=
  match f with
  | .next => ∃ σ' H', Inv X pins σ' H' s' ∧ D.nx σ' H'
  | .brk => ∃ σ' H', Inv X pins σ' H' s' ∧ D.bk σ' H'
  | .cont => ∃ σ' H', Inv X pins σ' H' s' ∧ D.ct σ' H'
  | .ret u => ∃ v σ' H', Inv X pins σ' H' s' ∧ RelV v u ∧ D.rt v H'
def PE (X : Cx) (e : Expr) (t : TE) : Prop :=
  ∀ (pins : List (Addr × Obj)) (s : Shared) (σ : St) (H : Hp) (Q : VK), Inv X pins σ H s → t σ H Q → wpAny (model X.prog X.w) X.A (eval e X.env) (EP X pins σ Q) X.xe s
def PT (X : Cx) (e : Expr) (t : TT) : Prop :=
  ∀ (pins : List (Addr × Obj)) (s : Shared) (σ : St) (H : Hp) (Q : Bool → Hp → Prop), Inv X pins σ H s → t σ H Q → wpAny (model X.prog X.w) X.A (isTrue e X.env (eval e X.env)) (TP X pins σ Q) X.xe s
def PW (X : Cx) (e : Expr) (t : TT) : Prop :=
  ∀ (whole : Sem Value) (pins : List (Addr × Obj)) (s : Shared) (σ : St) (H : Hp) (Q : Bool → Hp → Prop), Inv X pins σ H s → t σ H Q → wpAny (model X.prog X.w) X.A (isTrue e X.env whole) (TP X pins σ Q) X.xe s
theorem PW.pt {X : Cx} {e : Expr} {t : TT} (h : PW X e t) : PT X e t := h _
def PA (X : Cx) (es : List Expr) (t : TA) : Prop :=
  ∀ (pos : Pos) (pins : List (Addr × Obj)) (s : Shared) (σ : St) (H : Hp) (Q : List V → Hp → Prop), Inv X pins σ H s → t σ H Q → wpAny (model X.prog X.w) X.A (spliced (backTo pos (starEach es X.env))) (AP X pins σ Q) X.xe s
def PS (X : Cx) (st : Stmt) (t : TS) : Prop :=
  ∀ (pins : List (Addr × Obj)) (s : Shared) (σ : St) (H : Hp) (D : Ends), Inv X pins σ H s → t D σ H → wpAny (model X.prog X.w) X.A (exec st X.env) (SP X pins D) X.xe s
def PSs (X : Cx) (st : List Stmt) (t : TS) : Prop :=
  ∀ (pins : List (Addr × Obj)) (s : Shared) (σ : St) (H : Hp) (D : Ends), Inv X pins σ H s → t D σ H → wpAny (model X.prog X.w) X.A (execs st X.env) (SP X pins D) X.xe s
theorem thn {α : Type} {t : Sem α} {Q Q' : α → Shared → Prop} {M : Model} {A : Around} {E : Value → Shared → Prop} {s : Shared} (h : wpAny M A t Q E s) (hQ : ∀ a s, Q a s → Q' a s) : wpAny M A t Q' E s := wpAny_mono h hQ fun _ _ x => x
end L2
namespace L2
open PySem PySem.Spec PyProof.Rows
section
variable {X : Cx}
def tVar (i : Nat) : TE := fun σ H Q => ∃ v, σ[i]? = some (some v) ∧ Q v H
def tC (v : V) : TE := fun _ H Q => Q v H
theorem pe_var {i : Nat} {x : Str} {pos : Pos} (hN : X.N[i]? = some x) (hv : Vis X.env.scope x) (hd : (x == ("__debug__" : Str)) = false := by decide) (hcd : (x == ("__classdict__" : Str)) = false := by decide) : PE X (.Name x pos) (tVar i) := by
  intro pins s σ H Q I h
  obtain ⟨v, e, h⟩ := h
  obtain ⟨m, hn, hl⟩ := I.loc
  obtain ⟨u, r, l⟩ := hl i x v hN e hv
  have fin : EP X pins σ Q u s := ⟨v, H, I, r, h⟩
  rcases l with ⟨hk, hm⟩ | ⟨hk, c, hc, hcell⟩
  · exact wpAny_Name (wpAny_loadName_local I.ok.kind hk hn hm fin) hd
  · rcases hk with hk | hk
    · exact wpAny_Name (wpAny_loadName_cell I.ok.kind hk hc hcell fin) hd
    · exact wpAny_Name (wpAny_loadName_free I.ok.kind hk hc hcell fin hcd) hd
theorem pe_int {i j pos} : PE X (.Constant (.int i) j pos) (tC (.int i)) := fun _ _ _ H _ I h => wpAny_Constant_int ⟨.int i, H, I.tok _, ⟨_, rfl⟩, h⟩
theorem pe_bl {b j pos} : PE X (.Constant (.bool b) j pos) (tC (.bl b)) := fun _ _ _ H _ I h => Constant_bool ⟨.bl b, H, I, rfl, h⟩
theorem pe_non {j pos} : PE X (.Constant .none j pos) (tC .non) := fun _ _ _ H _ I h => Constant_none ⟨.non, H, I, rfl, h⟩
theorem pe_str {x j pos} : PE X (.Constant (.str x) j pos) (tC (.str x)) := fun _ _ _ H _ I h => Calls.Constant_str ⟨.str x, H, I.tok _, ⟨_, rfl⟩, h⟩
def Gl (X : Cx) (x : Str) : Prop := X.env.kindOf x = some .globalImplicit
theorem ld_glob {E : Value → Shared → Prop} {pins : List (Addr × Obj)} {s : Shared} {σ : St} {H : Hp} {x : Str} {u : Value} {pos : Pos} {Q : Value → Shared → Prop} (I : Inv X pins σ H s) (hg : Gl X x) (hm : X.mg x = some u) (h : Q u s)
    (hd : (x == ("__debug__" : Str)) = false := by decide) : wpAny (model X.prog X.w) X.A (eval (.Name x pos) X.env) Q E s :=
  Calls.Name_function_global I.ok.kind hg (Calls.loadGlobal_global (by rw [I.ok.glob]; exact I.mod.glob.keeps I.bk) hm h) hd
theorem ld_blt {E : Value → Shared → Prop} {pins : List (Addr × Obj)} {s : Shared} {σ : St} {H : Hp} {x : Str} {u : Value} {pos : Pos} {Q : Value → Shared → Prop} (I : Inv X pins σ H s) (hg : Gl X x) (hm : X.mg x = none) (hv : bootBuiltins x = some u) (h : Q u s)
    (hn : x ≠ "__name__" := by decide) (hd : (x == ("__debug__" : Str)) = false := by decide) : wpAny (model X.prog X.w) X.A (eval (.Name x pos) X.env) Q E s := by
  obtain ⟨mb, h1, h2⟩ := I.mod.blt
  exact Calls.Name_function_global I.ok.kind hg (Calls.loadGlobal_builtin (by rw [I.ok.glob]; exact I.mod.glob.keeps I.bk) hm (by rw [I.ok.blt]; exact h1.keeps I.bk) ((h2 x hn).trans hv) h) hd
theorem pe_glob {x : Str} {v : V} {u : Value} {pos : Pos} (hg : Gl X x) (hm : X.mg x = some u) (r : RelV v u) (hd : (x == ("__debug__" : Str)) = false := by decide) : PE X (.Name x pos) (tC v) :=
  fun _ _ _ H _ I h => ld_glob I hg hm ⟨v, H, I, r, h⟩ hd
theorem pe_bltn {x : Str} {v : V} {u : Value} {pos : Pos} (hg : Gl X x) (hm : X.mg x = none) (hv : bootBuiltins x = some u) (r : RelV v u) (hn : x ≠ "__name__" := by decide) (hd : (x == ("__debug__" : Str)) = false := by decide) : PE X (.Name x pos) (tC v) :=
  fun _ _ _ H _ I h => ld_blt I hg hm hv ⟨v, H, I, r, h⟩ hn hd
variable {a b : Expr} {ta tb : TE} {pos : Pos}
def PC (X : Cx) (op : CmpOp) (a b : Expr) (t : TE) : Prop :=
  ∀ (pins : List (Addr × Obj)) (s : Shared) (σ : St) (H : Hp) (Q : VK), Inv X pins σ H s → t σ H Q →
    wpAny (model X.prog X.w) X.A (eval a X.env) (fun v s₁ => wpAny (model X.prog X.w) X.A (eval b X.env) (fun u s₂ => wpAny (model X.prog X.w) X.A (compareOp op v u) (EP X pins σ Q) X.xe s₂) X.xe s₁) X.xe s
def tB (t : TE) : TT := fun σ H Q => t σ H fun x H1 => ∃ c, x = .bl c ∧ Q c H1
theorem pt_val {e : Expr} {t : TE} (h : PE X e t) (he : ∀ whole, isTrue e X.env whole = (do let v ← whole; standAt e.pos; holding [v] (truthy v)) := by intro _; rfl) : PT X e (tB t) := by
  intro pins s σ H Q I hw
  refine isTrue_plain (thn (h pins s σ H _ I hw) fun v s1 ⟨x, H1, I1, r1, q1⟩ => ?_) (he _)
  obtain ⟨d, rfl, q⟩ := q1
  cases r1
  exact wpAny_truthy_bool ⟨H1, I1, q⟩
variable {tA tB' : TT} {rest : List Expr}
def tAnd (t u : TT) : TT := fun σ H Q => t σ H fun c H1 => if c = true then u σ H1 Q else Q false H1
def tOr (t u : TT) : TT := fun σ H Q => t σ H fun c H1 => if c = true then Q true H1 else u σ H1 Q
def tNot (t : TT) : TT := fun σ H Q => t σ H fun c H1 => Q (!c) H1
theorem pw_and1 (ha : PT X a tA) : PW X (.BoolOp .And [a] pos) tA := by
  intro wh pins s σ H Q I h
  refine isTrue_and (thn (ha pins s σ H Q I h) fun c s1 e => ?_)
  cases c with
  | true => exact isTrue_and_nil e
  | false => exact e
theorem pw_or1 (ha : PT X a tA) : PW X (.BoolOp .Or [a] pos) tA := by
  intro wh pins s σ H Q I h
  refine isTrue_or (thn (ha pins s σ H Q I h) fun c s1 e => ?_)
  cases c with
  | false => exact isTrue_or_nil e
  | true => exact e
theorem pw_and (ha : PT X a tA) (hb : PW X (.BoolOp .And (b :: rest) pos) tB') : PW X (.BoolOp .And (a :: b :: rest) pos) (tAnd tA tB') := by
  intro wh pins s σ H Q I h
  refine isTrue_and (thn (ha pins s σ H _ I h) fun c s1 ⟨H1, I1, q1⟩ => ?_)
  cases c with
  | true => exact hb wh pins s1 σ H1 Q I1 q1
  | false => exact ⟨H1, I1, q1⟩
theorem pw_or (ha : PT X a tA) (hb : PW X (.BoolOp .Or (b :: rest) pos) tB') : PW X (.BoolOp .Or (a :: b :: rest) pos) (tOr tA tB') := by
  intro wh pins s σ H Q I h
  refine isTrue_or (thn (ha pins s σ H _ I h) fun c s1 ⟨H1, I1, q1⟩ => ?_)
  cases c with
  | true => exact ⟨H1, I1, q1⟩
  | false => exact hb wh pins s1 σ H1 Q I1 q1
theorem pt_not (ha : PT X a tA) : PT X (.UnaryOp .Not a pos) (tNot tA) := by
  intro pins s σ H Q I h
  exact isTrue_not (ha pins s σ H (fun c H1 => Q (!c) H1) I h)
def tAndV (ta tb : TE) : TE := fun σ H Q => ta σ H fun x H1 => ∃ c, x = .bl c ∧ if c = true then tb σ H1 Q else Q (.bl false) H1
def tOrV (ta tb : TE) : TE := fun σ H Q => ta σ H fun x H1 => ∃ c, x = .bl c ∧ if c = true then Q (.bl true) H1 else tb σ H1 Q
def tNotV (ta : TE) : TE := fun σ H Q => ta σ H fun x H1 => ∃ c, x = .bl c ∧ Q (.bl (!c)) H1
theorem pe_one {op} {t : TE} (h : PE X a t) : PE X (.BoolOp op [a] pos) t := fun pins s σ H Q I hw => BoolOp_one (h pins s σ H Q I hw)
theorem pe_and (ha : PE X a ta) (hb : PE X (.BoolOp .And (b :: rest) pos) tb) : PE X (.BoolOp .And (a :: b :: rest) pos) (tAndV ta tb) := by
  intro pins s σ H Q I h
  refine BoolOp_and (thn (ha pins s σ H _ I h) fun v s1 ⟨x, H1, I1, r1, q1⟩ => ?_)
  obtain ⟨c, rfl, q1⟩ := q1
  cases r1
  refine wpAny_truthy_bool ?_
  cases c with
  | true => exact hb pins s1 σ H1 Q I1 q1
  | false => exact ⟨.bl false, H1, I1, rfl, q1⟩
theorem pe_or (ha : PE X a ta) (hb : PE X (.BoolOp .Or (b :: rest) pos) tb) : PE X (.BoolOp .Or (a :: b :: rest) pos) (tOrV ta tb) := by
  intro pins s σ H Q I h
  refine BoolOp_or (thn (ha pins s σ H _ I h) fun v s1 ⟨x, H1, I1, r1, q1⟩ => ?_)
  obtain ⟨c, rfl, q1⟩ := q1
  cases r1
  refine wpAny_truthy_bool ?_
  cases c with
  | false => exact hb pins s1 σ H1 Q I1 q1
  | true => exact ⟨.bl true, H1, I1, rfl, q1⟩
theorem pe_not (ha : PE X a ta) : PE X (.UnaryOp .Not a pos) (tNotV ta) := by
  intro pins s σ H Q I h
  refine UnaryOp_ (thn (ha pins s σ H _ I h) fun v s1 ⟨x, H1, I1, r1, q1⟩ => ?_)
  obtain ⟨c, rfl, q1⟩ := q1
  cases r1
  exact not_of (wpAny_truthy_bool ⟨.bl (!c), H1, I1, rfl, q1⟩)
end
end L2
namespace L2
open PySem PySem.Spec PyProof.Rows
def SqL (K : PySem.W.Frag) (H : Hp) (a : Addr) (xs : List V) : Prop :=
  Rd H a (.lst xs) ∨
    ∃ (o : Obj) (its : Array Value) (n : Nat), K.lookup a = some o ∧ o.cls = .type "list" ∧ o.dict = none ∧ o.data = .seq its n ∧ its.size ≤ sizeLine ∧ Vals xs its.toList
def SqT (K : PySem.W.Frag) (H : Hp) (a : Addr) (xs : List V) : Prop :=
  Rd H a (.tup xs) ∨
    ∃ (o : Obj) (its : Array Value) (n : Nat), K.lookup a = some o ∧ o.cls = .type "tuple" ∧ o.data = .seq its n ∧ its.size ≤ sizeLine ∧ Vals xs its.toList
def absV : Value → Option V
  | .none => some .non
  | .bool b => some (.bl b)
  | .int i _ => some (.int i)
  | .str x _ => some (.str x)
  | .bytes b _ => some (.byt b)
  | .float b _ => some (.flt b)
  | .ref a => some (.ref a)
  | .type n => some (.ty n)
  | _ => none
theorem RelV.abs {x : V} {u : Value} (r : RelV x u) : absV u = some x := by
  cases x with
  | non => cases r; rfl
  | bl _ => cases r; rfl
  | int _ => obtain ⟨t, rfl⟩ := r; rfl
  | str _ => obtain ⟨t, rfl⟩ := r; rfl
  | byt _ => obtain ⟨t, rfl⟩ := r; rfl
  | flt _ => obtain ⟨t, rfl⟩ := r; rfl
  | ref _ => cases r; rfl
  | ty _ => cases r; rfl
theorem RelV.inj {x y : V} {u : Value} (r : RelV x u) (q : RelV y u) : x = y := Option.some.inj (r.abs.symm.trans q.abs)
theorem Vals.inj : ∀ {xs ys : List V} {us : List Value}, Vals xs us → Vals ys us → xs = ys
  | _, _, _, .nil, .nil => rfl
  | _, _, _, .cons r t, .cons r' t' => by rw [r.inj r', Vals.inj t t']
section
variable {X : Cx} {pins : List (Addr × Obj)} {σ : St} {H : Hp} {s : Shared} {a : Addr} {xs ys : List V}
theorem SqL.of {K : PySem.W.Frag} (h : H a = some (.lst xs)) : SqL K H a xs := .inl (.inl h)
theorem SqT.of {K : PySem.W.Frag} (h : H a = some (.tup xs)) : SqT K H a xs := .inl (.inl h)
theorem Inv.list (I : Inv X pins σ H s) (h : SqL X.K H a xs) : ∃ its : List Value, Vals xs its ∧ PlainL s.heap a its.toArray ∧ xs.length ≤ sizeLine := by
  rcases h with h | ⟨o, its, n, hk, hc, hd, hs, hz, r⟩
  · obtain ⟨z, its, n, r, e⟩ := h.ok I.hok
    exact ⟨its, r, ⟨_, n, e, rfl, rfl, rfl⟩, z⟩
  · refine ⟨its.toList, r, ⟨o, n, I.kIn a o hk, hc, hd, by simpa using hs⟩, ?_⟩
    have e := r.length
    simp only [Array.length_toList] at e
    omega
theorem Inv.tuple (I : Inv X pins σ H s) (h : SqT X.K H a xs) : ∃ its : List Value, Vals xs its ∧ IsTup s.heap a its.toArray ∧ xs.length ≤ sizeLine := by
  rcases h with h | ⟨o, its, n, hk, hc, hs, hz, r⟩
  · obtain ⟨z, its, r, p⟩ := h.ok I.hok
    exact ⟨its, r, p, z⟩
  · refine ⟨its.toList, r, ⟨o, I.kIn a o hk, hc, n, by simpa using hs⟩, ?_⟩
    have e := r.length
    simp only [Array.length_toList] at e
    omega
theorem Inv.list_inj (I : Inv X pins σ H s) (h : SqL X.K H a xs) (h' : SqL X.K H a ys) : xs = ys := by
  obtain ⟨its, r, ⟨o, n, e, _, _, d⟩, _⟩ := I.list h
  obtain ⟨its', r', ⟨o', n', e', _, _, d'⟩, _⟩ := I.list h'
  rw [e] at e'; cases e'
  rw [d] at d'
  injection d' with d1 _
  have : its = its' := by simpa using congrArg Array.toList d1
  subst this
  exact r.inj r'
end
abbrev Cx.wish (X : Cx) (E : Value → Shared → Prop) : Cx := { X with xe := E }
abbrev Cx.nox (X : Cx) : Cx := X.wish fun _ _ => False
theorem Cx.Ok.wish {X : Cx} (ok : X.Ok) (E : Value → Shared → Prop) : (X.wish E).Ok :=
  ⟨ok.mod, ok.kind, ok.glob, ok.blt, ok.above, ok.inj, ok.has, ok.cab, ok.hd, ok.frames, ok.stk, ok.exf, ok.bs, ok.bsz, ok.noex, ok.exfs, ok.funs, ok.frf⟩
theorem Cx.Ok.unwish {X : Cx} {E : Value → Shared → Prop} (ok : (X.wish E).Ok) : X.Ok :=
  ⟨ok.mod, ok.kind, ok.glob, ok.blt, ok.above, ok.inj, ok.has, ok.cab, ok.hd, ok.frames, ok.stk, ok.exf, ok.bs, ok.bsz, ok.noex, ok.exfs, ok.funs, ok.frf⟩
section
variable {X : Cx} {pins : List (Addr × Obj)} {σ : St} {H : Hp} {s : Shared} {E : Value → Shared → Prop}
theorem Inv.wish (I : Inv X pins σ H s) (E : Value → Shared → Prop) : Inv (X.wish E) pins σ H s := ⟨I.ok.wish E, I.os, I.bare, I.base, I.loc, I.cell, I.free, I.freeC, I.pin, I.hok, I.len⟩
theorem Inv.unwish (I : Inv (X.wish E) pins σ H s) : Inv X pins σ H s := ⟨I.ok.unwish, I.os, I.bare, I.base, I.loc, I.cell, I.free, I.freeC, I.pin, I.hok, I.len⟩
theorem SP.unwish {D : Ends} {f : Flow} {s' : Shared} (h : SP (X.wish E) pins D f s') : SP X pins D f s' := by
  cases f with
  | next => obtain ⟨σ', H', I, q⟩ := h; exact ⟨σ', H', I.unwish, q⟩
  | brk => obtain ⟨σ', H', I, q⟩ := h; exact ⟨σ', H', I.unwish, q⟩
  | cont => obtain ⟨σ', H', I, q⟩ := h; exact ⟨σ', H', I.unwish, q⟩
  | ret u => obtain ⟨v, σ', H', I, r, q⟩ := h; exact ⟨v, σ', H', I.unwish, r, q⟩
theorem PSs.nox {st : List Stmt} {t : TS} (h : PSs X.nox st t) : PSs X st t := fun pins s σ H D I hw =>
  wpAny_mono (h pins s σ H D (I.wish _) hw) (fun _ _ q => q.unwish) fun _ _ z => False.elim z
end
section
variable {X : Cx} {st : Stmt} {rest : List Stmt} {t u : TS} {e : Expr} {te : TE} {pos : Pos}
def tNext : TS := fun D σ H => D.nx σ H
def tSeq (t u : TS) : TS := fun D σ H => t { D with nx := u D } σ H
theorem pss_nil : PSs X [] tNext := fun _ _ σ H _ I h => wpAny_execs_nil ⟨σ, H, I, h⟩
theorem pss_cons (h1 : PS X st t) (h2 : PSs X rest u) : PSs X (st :: rest) (tSeq t u) := by
  intro pins s σ H D I h
  refine wpAny_execs_cons (thn (h1 pins s σ H { D with nx := u D } I h) fun f s1 q => ?_)
  cases f with
  | next =>
    obtain ⟨σ', H', I', q⟩ := q
    exact h2 pins s1 σ' H' D I' q
  | ret v => exact q
  | brk => exact q
  | cont => exact q
theorem pss_one (h1 : PS X st t) : PSs X [st] t := by
  intro pins s σ H D I h
  refine wpAny_execs_cons (thn (h1 pins s σ H D I h) fun f s1 q => ?_)
  cases f with
  | next => exact wpAny_execs_nil q
  | ret v => exact q
  | brk => exact q
  | cont => exact q
theorem Inv.quiet {pins : List (Addr × Obj)} {σ : St} {H : Hp} {s : Shared} (I : Inv X pins σ H s) : interactive X.env = false := by simp [interactive, I.ok.kind]
def tDrop (te : TE) : TS := fun D σ H => te σ H fun _ H1 => D.nx σ H1
theorem ps_expr (he : PE X e te) (hs : swapsWith e none pos.line X.env = pure false := by rfl) : PS X (.Expr e pos) (tDrop te) := by
  intro pins s σ H D I h
  exact wpAny_Expr_any (thn (he pins s σ H _ I h) fun v s1 ⟨x, H1, I1, r1, q1⟩ => ⟨σ, H1, I1, q1⟩) I.quiet hs
def tRet (te : TE) : TS := fun D σ H => te σ H D.rt
theorem ps_ret (he : PE X e te) : PS X (.Return (some e) pos) (tRet te) := by
  intro pins s σ H D I h
  exact wpAny_Return_some (thn (he pins s σ H _ I h) fun v s1 ⟨x, H1, I1, r1, q1⟩ => ⟨x, σ, H1, I1, r1, q1⟩)
def tIfS (c : TT) (t u : TS) : TS := fun D σ H => c σ H fun b H1 => if b = true then t D σ H1 else u D σ H1
theorem ps_if {c : Expr} {a b : List Stmt} {tc : TT} (hc : PT X c tc) (ha : PSs X a t) (hb : PSs X b u) : PS X (.If c a b pos) (tIfS tc t u) := by
  intro pins s σ H D I h
  refine wpAny_If (thn (hc pins s σ H _ I h) fun d s1 ⟨H1, I1, q1⟩ => ?_)
  cases d with
  | true => exact ha pins s1 σ H1 D I1 q1
  | false => exact hb pins s1 σ H1 D I1 q1
end
abbrev TG := V → St → Hp → (St → Hp → Prop) → Prop
abbrev TGs := List V → St → Hp → (St → Hp → Prop) → Prop
def PG (X : Cx) (target : Expr) (t : TG) : Prop :=
  ∀ (pins : List (Addr × Obj)) (s : Shared) (σ : St) (H : Hp) (v : V) (u : Value) (Q : St → Hp → Prop), Inv X pins σ H s → RelV v u → t v σ H Q →
    wpAny (model X.prog X.w) X.A (assign target X.env u) (fun _ s' => ∃ σ' H', Inv X pins σ' H' s' ∧ Q σ' H') X.xe s
def PGs (X : Cx) (ts : List Expr) (t : TGs) : Prop :=
  ∀ (pins : List (Addr × Obj)) (s : Shared) (σ : St) (H : Hp) (vs : List V) (us : List Value) (Q : St → Hp → Prop), Inv X pins σ H s → Vals vs us → t vs σ H Q →
    wpAny (model X.prog X.w) X.A (assignInOrder ((assignEach ts X.env).map (·.2)) us) (fun _ s' => ∃ σ' H', Inv X pins σ' H' s' ∧ Q σ' H') X.xe s
abbrev TSet := V → V → V → Hp → (Hp → Prop) → Prop
def PSet (X : Cx) (t : TSet) : Prop :=
  ∀ (pins : List (Addr × Obj)) (s : Shared) (σ : St) (H : Hp) (o i v : V) (ov iv u : Value) (Q : Hp → Prop), Inv X pins σ H s → RelV o ov → RelV i iv → RelV v u → t o i v H Q →
    wpAny (model X.prog X.w) X.A (setItem ov iv u) (fun _ s' => ∃ H', Inv X pins σ H' s' ∧ Q H') X.xe s
section
variable {X : Cx} {pos : Pos}
def gName (i : Nat) : TG := fun v σ H Q => Q (σ.set i (some v)) H
theorem pg_name {i : Nat} {x : Str} (hN : X.N.Nodup) (hi : X.N[i]? = some x) (hx : Loc X.env.scope x) (hf : X.fn x = true ∨ X.env.scope.names.lookup x = some .local := by first | exact .inl rfl | exact .inr rfl | assumption) : PG X (.Name x pos) (gName i) := by
  intro pins s σ H v u Q I r h
  exact wpAny_assign_Name (store_ok I hN hi hx r (fun s' I' => ⟨_, H, I', h⟩) hf)
def gNil : TGs := fun vs σ H Q => vs = [] ∧ Q σ H
def gCons (t : TG) (u : TGs) : TGs := fun vs σ H Q => ∃ v r, vs = v :: r ∧ t v σ H fun σ' H' => u r σ' H' Q
theorem pgs_nil : PGs X [] gNil := by
  intro pins s σ H vs us Q I r h
  obtain ⟨e, h⟩ := h
  subst e
  cases r
  exact assignInOrder_nil ⟨σ, H, I, h⟩
theorem pgs_cons {e : Expr} {es : List Expr} {t : TG} {u : TGs} (h1 : PG X e t) (h2 : PGs X es u)
    (hs : (assignEach (e :: es) X.env).map (·.2) = assign e X.env :: (assignEach es X.env).map (·.2) := by rfl) : PGs X (e :: es) (gCons t u) := by
  intro pins s σ H vs us Q I r h
  obtain ⟨v, vr, e1, h⟩ := h
  subst e1
  cases r with
  | cons r rr =>
    rw [hs]
    refine assignInOrder_cons (thn (h1 pins s σ H _ _ _ I r h) fun _ s1 ⟨σ1, H1, I1, q1⟩ => ?_)
    exact h2 pins s1 σ1 H1 _ _ Q I1 rr q1
def gTup (K : PySem.W.Frag) (n : Nat) (t : TGs) : TG := fun v σ H Q => ∃ a xs, v = .ref a ∧ SqT K H a xs ∧ xs.length = n ∧ t xs σ H Q
theorem pg_tup {es : List Expr} {k : Nat} {t : TGs} {n : Nat} (hc : X.calm = true) (h : PGs X es t)
    (hn : (assignEach es X.env).length = n := by rfl) (hst : (assignEach es X.env).findIdx? (·.1) = none := by rfl) : PG X (.Tuple es k pos) (gTup X.K n t) := by
  intro pins s σ H v u Q I r hw
  obtain ⟨a, xs, e1, hq, hl, hw⟩ := hw
  subst e1
  cases r
  obtain ⟨its, rv, ht, hz⟩ := I.tuple hq
  refine assign_Tuple_tuple (I.ok.hd hc) ht (by simp [hn, ← hl, rv.length]) hst fun h' hx => ?_
  have I1 : Inv X pins σ H { s with heap := h' } := I.kept (t' := s.toks) fun b o e => hx b o (Nat.ne_of_lt (Heap.lt_size e)) e
  exact h pins _ σ H xs _ Q I1 (by simpa using rv) hw
def gSub (to ti : TE) (t : TSet) : TG := fun v σ H Q => to σ H fun o H1 => ti σ H1 fun i H2 => t o i v H2 fun H3 => Q σ H3
theorem pg_sub {o i : Expr} {to ti : TE} {t : TSet} (ho : PE X o to) (hi : PE X i ti) (hs : PSet X t)
    (ha : ∀ v, assign (.Subscript o i pos) X.env v = (do
      let ov ← holding [v] (eval o X.env)
      let iv ← holding [v, ov] (eval i X.env)
      standAt pos
      holding [v, ov, iv] (setItem ov iv v)
      release [v, ov, iv] []) := by intro _; rfl) : PG X (.Subscript o i pos) (gSub to ti t) := by
  intro pins s σ H v u Q I r h
  rw [ha]
  refine wpAny_bind (wpAny_holding (thn (ho pins s σ H _ I h) fun ov s1 ⟨x, H1, I1, r1, q1⟩ => ?_))
  refine wpAny_bind (wpAny_holding (thn (hi pins s1 σ H1 _ I1 q1) fun iv s2 ⟨y, H2, I2, r2, q2⟩ => ?_))
  refine wpAny_bind (wpAny_standAt (wpAny_bind (wpAny_holding (thn (hs pins s2 σ H2 x y v ov iv u _ I2 r1 r2 r q2) fun _ s3 ⟨H3, I3, q3⟩ => ?_))))
  exact wpAny_release ⟨σ, H3, I3, q3⟩
def tAsg (te : TE) (g : TG) : TS := fun D σ H => te σ H fun x H1 => g x σ H1 D.nx
theorem ps_asg {tg e : Expr} {te : TE} {g : TG} (he : PE X e te) (hg : PG X tg g) (hs : swapsWithSole [tg] e pos.line X.env = pure false := by rfl) (hw : swappedStores [tg] e X.env = pure none := by rfl)
    (h1 : (assignEach [tg] X.env).map (·.2) = [assign tg X.env] := by rfl) : PS X (.Assign [tg] e pos) (tAsg te g) := by
  intro pins s σ H D I h
  refine wpAny_Assign_stores (thn (he pins s σ H _ I h) fun v s1 ⟨x, H1, I1, r1, q1⟩ => ?_) hs hw
  rw [h1]
  exact thn (hg pins s1 σ H1 x v _ I1 r1 q1) fun _ s2 q => q
theorem ps_set {i : Nat} {x : Str} {e : Expr} {te : TE} {pos' : Pos} (hN : X.N.Nodup) (hi : X.N[i]? = some x) (hx : Loc X.env.scope x) (he : PE X e te) (hs : swapsWith e (some (.Name x pos')) pos.line X.env = pure false := by rfl) (hf : X.fn x = true ∨ X.env.scope.names.lookup x = some .local := by first | exact .inl rfl | exact .inr rfl | assumption) :
    PS X (.Assign [.Name x pos'] e pos) (tAsg te (gName i)) := by
  intro pins s σ H D I h
  refine wpAny_Assign_Name (thn (he pins s σ H _ I h) fun v s1 ⟨y, H1, I1, r1, q1⟩ => ?_) hs
  exact store_ok I1 hN hi hx r1 (fun s2 I2 => ⟨_, H1, I2, q1⟩) hf
end
section
variable {X : Cx} {pos : Pos}
def tWhile (c : TT) (tb : TS) : TS := fun D σ H => ∃ W : Nat → St → Hp → Prop, (∃ m, W m σ H) ∧ ∀ m σ H, W m σ H →
  c σ H fun b H1 => if b = true then ∃ N : St → Hp → Prop, (∀ σ' H', N σ' H' → ∃ m', m' < m ∧ W m' σ' H') ∧ tb { D with nx := N, ct := N, bk := D.nx } σ H1 else D.nx σ H1
theorem ps_while {c : Expr} {body : List Stmt} {tc : TT} {tb : TS} (hp : PassesOwn (model X.prog X.w) X.A X.env X.xe) (hc : PT X c tc) (hb : PSs X body tb) : PS X (.While c body [] pos) (tWhile tc tb) := by
  intro pins s σ H D I h
  obtain ⟨W, ⟨m0, w0⟩, turn⟩ := h
  refine wpAny_While (codeAny_whileLoop (fun n s' => ∃ σ' H', Inv X pins σ' H' s' ∧ W n σ' H') ?_ m0 ⟨σ, H, I, w0⟩)
  rintro n s1 ⟨σ1, H1, I1, w1⟩
  refine wpAny_passesOwn hp (thn (hc pins s1 σ1 H1 _ I1 (turn n σ1 H1 w1)) fun b s2 ⟨H2, I2, q2⟩ => ?_)
  cases b with
  | true =>
    obtain ⟨N, hN, q2⟩ := q2
    rw [if_pos rfl]
    refine wpAny_passesOwn hp (thn (hb pins s2 σ1 H2 _ I2 q2) fun f s3 q3 => ?_)
    cases f with
    | next =>
      obtain ⟨σ3, H3, I3, n3⟩ := q3
      obtain ⟨m', hm, w3⟩ := hN σ3 H3 n3
      exact ⟨m', hm, σ3, H3, I3, w3⟩
    | cont =>
      obtain ⟨σ3, H3, I3, n3⟩ := q3
      obtain ⟨m', hm, w3⟩ := hN σ3 H3 n3
      exact ⟨m', hm, σ3, H3, I3, w3⟩
    | brk => exact q3
    | ret v => exact q3
  | false =>
    rw [if_neg Bool.false_ne_true]
    exact wpAny_execs_nil ⟨σ1, H2, I2, q2⟩
end
structure It where
  go : Nat → Hp → Prop
  yld : Nat → Hp → V → Hp → Prop
  stop : Nat → Hp → Prop
def FpOk (X : Cx) (pins : List (Addr × Obj)) (H : Hp) (b : Addr) : Prop :=
  H b = none ∧ b ≠ X.env.locals ∧ b ∉ X.fs ∧ (b ∈ X.ex ∨ X.s₀.heap.objs.size ≤ b) ∧ (∀ x c, X.env.cells.lookup x = some c → c ≠ b) ∧ ∀ p ∈ X.pn ++ pins, p.1 ≠ b
theorem Inv.fpOk {X : Cx} {pins : List (Addr × Obj)} {σ : St} {H H' : Hp} {s : Shared} {b : Addr} (I : Inv X pins σ H s) (hb : s.heap.objs.size ≤ b) (hn : H' b = none) : FpOk X pins H' b := by
  refine ⟨hn, Nat.ne_of_gt (Nat.lt_of_lt_of_le I.lt hb), I.nofs hb, .inr (Nat.le_trans I.sz hb), fun x c e z => ?_, fun p hp z => ?_⟩
  · obtain ⟨v, q⟩ := I.cell x c e
    exact absurd (Nat.lt_of_lt_of_le q.lt (by rw [z]; exact hb)) (Nat.lt_irrefl _)
  · exact absurd (Nat.lt_of_lt_of_le (Heap.lt_size (I.pin p hp).1) (by rw [z]; exact hb)) (Nat.lt_irrefl _)
structure Turn (P : Program) (w : World) (K : PySem.W.Frag) (tg : Expr) (J : It) (fp : List Addr) (it : Addr) (tn : Nat → Heap → Prop) : Prop where
  mem : it ∈ fp
  obj : ∀ i h, tn i h → ∀ b ∈ fp, ∃ o, h.get? b = some o ∧ ∀ v, o.data ≠ .cell v
  keep : ∀ i h h', tn i h → (∀ b ∈ fp, ∀ o, h.get? b = some o → h'.get? b = some o) → tn i h'
  item : ∀ (X : Cx), X.prog = P → X.w = w → X.K = K → X.calm = true → ∀ (i : Nat) (pins : List (Addr × Obj)) (s : Shared) (σ : St) (H : Hp) (E : Value → Shared → Prop), Inv X pins σ H s → (∀ b ∈ fp, FpOk X pins H b) → tn i s.heap → J.go i H →
    wpAny (model P w) X.A (pyNext (.ref it)) (fun r s1 => ∃ u, r = some u ∧
      wpAny (model P w) X.A (letOwnedTupleGo tg (.ref it) u) (fun _ s2 => ∃ x H', Inv X pins σ H' s2 ∧ RelV x u ∧ J.yld i H x H' ∧ tn (i + 1) s2.heap ∧ ∀ b ∈ fp, H' b = none) E s1) E s
  done : ∀ (X : Cx), X.prog = P → X.w = w → X.K = K → X.calm = true → ∀ (i : Nat) (pins : List (Addr × Obj)) (s : Shared) (σ : St) (H : Hp) (E : Value → Shared → Prop), Inv X pins σ H s → (∀ b ∈ fp, FpOk X pins H b) → tn i s.heap → J.stop i H →
    wpAny (model P w) X.A (pyNext (.ref it)) (fun r s1 => r = none ∧ Inv X pins σ H s1) E s
  self : ∀ (A : Around) (i : Nat) (s : Shared) (Q : Value → Shared → Prop) (E : Value → Shared → Prop), tn i s.heap → Q (.ref it) s → wpAny (model P w) A (pyIter (.ref it)) Q E s
abbrev TI := St → Hp → (It → Hp → Prop) → Prop
def PIE (X : Cx) (pins : List (Addr × Obj)) (σ : St) (tg : Expr) (R : It → Hp → Prop) (itv : Value) (s2 : Shared) : Prop :=
  ∃ (it : Addr) (fp : List Addr) (tn : Nat → Heap → Prop) (J : It) (H' : Hp), itv = .ref it ∧ Inv X pins σ H' s2 ∧ Turn X.prog X.w X.K tg J fp it tn ∧ tn 0 s2.heap ∧ (∀ b ∈ fp, FpOk X pins H' b) ∧ R J H'
def PI (X : Cx) (tg iter : Expr) (wi : TI) : Prop :=
  ∀ (pins : List (Addr × Obj)) (s : Shared) (σ : St) (H : Hp) (R : It → Hp → Prop), Inv X pins σ H s → wi σ H R →
    wpAny (model X.prog X.w) X.A (eval iter X.env) (fun v s1 => wpAny (model X.prog X.w) X.A (pyIter v) (PIE X pins σ tg R) X.xe s1) X.xe s
theorem go_of {M : Model} {A : Around} {E : Value → Shared → Prop} {s : Shared} {tg : Expr} {it : Addr} {u : Value} {o : Obj} {n : String} {vs : Array Value} {Q : Unit → Shared → Prop} (ho : s.heap.get? it = some o) (hc : o.cls = .type n) (hd : o.data = .fields vs)
    (hn : ["enumerate", "zip", "dict_itemiterator", "dict_reverseitemiterator", "odict_iterator", "itertools.zip_longest", "itertools.pairwise"].contains n = false) (hQ : Q () s) : wpAny M A (letOwnedTupleGo tg (.ref it) u) Q E s := by
  unfold letOwnedTupleGo
  cases tg <;> first
    | exact wpAny_pure hQ
    | (cases u <;> first
        | exact wpAny_pure hQ
        | (refine wpAny_bind (wpAny_load ho ?_)
           rw [hc, hd]
           show wpAny M A (if (["enumerate", "zip", "dict_itemiterator", "dict_reverseitemiterator", "odict_iterator", "itertools.zip_longest", "itertools.pairwise"].contains n && vs[0]? == some (rawInt _)) = true then _ else _) Q E s
           rw [if_neg (by intro h; rw [hn, Bool.false_and] at h; cases h)]
           exact wpAny_pure hQ))
def Itl (K : PySem.W.Frag) (a : Addr) : It :=
  ⟨fun i H => ∃ xs x, SqL K H a xs ∧ xs[i]? = some x, fun i H x H' => H' = H ∧ ∀ xs, SqL K H a xs → xs[i]? = some x, fun i H => ∃ xs, SqL K H a xs ∧ xs.length ≤ i⟩
def Itr (lo : Int) (n : Nat) : It := ⟨fun i _ => i < n, fun i H x H' => H' = H ∧ x = .int (lo + i), fun i _ => n ≤ i⟩
theorem turn_list {P : Program} {w : World} {K : PySem.W.Frag} {tg : Expr} (a it : Addr) : Turn P w K tg (Itl K a) [it] it (fun i h => h.IsListIter it a i) where
  mem := by simp
  obj := fun i h st b hb => by
    have e : b = it := by simpa using hb
    subst e
    obtain ⟨o, e, c, d⟩ := st
    exact ⟨o, e, fun v z => by rw [d] at z; cases z⟩
  keep := fun i h h' st k => st.at fun o e => k it (by simp) o e
  item := by
    intro X hP hw hK hc i pins s σ H E I hf st hg
    subst hP hw hK
    obtain ⟨xs, x, hq, hx⟩ := hg
    obtain ⟨its, rv, p, hz⟩ := I.list hq
    obtain ⟨u, hu, ru⟩ := rv.get hx
    obtain ⟨f0, f1, f2, f3, f4, f5⟩ := hf it (by simp)
    refine wpAny_pyNext_list_item st p.isList (x := u) (by simpa using hu) fun h' st' sb => ?_
    have I1 : Inv X pins σ H { s with heap := h' } := I.turned (t' := s.toks) (fun b o hb e => (sb.2 b hb).trans e) f0 f1 f3 f4 f5
    obtain ⟨o, e, c, d⟩ := id st'
    exact ⟨u, rfl, go_of (s := { s with heap := h' }) e c d (by decide) ⟨x, H, I1, ru, ⟨rfl, fun ys hy => by rw [I.list_inj hy hq]; exact hx⟩, st', fun b hb => (hf b hb).1⟩⟩
  done := by
    intro X hP hw hK hc i pins s σ H E I hf st hg
    subst hP hw hK
    obtain ⟨xs, hq, hx⟩ := hg
    obtain ⟨its, rv, p, hz⟩ := I.list hq
    obtain ⟨f0, f1, f2, f3, f4, f5⟩ := hf it (by simp)
    have hl := rv.length
    exact wpAny_pyNext_list_end (I.ok.hd hc) st p.isList (by simp; omega) fun h' eb => ⟨rfl, I.turned (t' := s.toks) (fun b o hb e => eb b o hb e) f0 f1 f3 f4 f5⟩
  self := fun _ _ _ _ _ st h => wpAny_pyIter_listiter st h
theorem turn_range {P : Program} {w : World} {K : PySem.W.Frag} {tg : Expr} (it : Addr) (lo : Int) (n : Nat) : Turn P w K tg (Itr lo n) [it] it (fun i h => IsRangeIter h it (lo + (i : Nat) * 1) ((n : Int) - (i : Nat)) 1) where
  mem := by simp
  obj := fun i h st b hb => by
    have e : b = it := by simpa using hb
    subst e
    exact ⟨_, st, fun v z => by
      have z' : Data.fields _ = Data.cell v := z
      cases z'⟩
  keep := fun i h h' st k => k it (by simp) _ st
  item := by
    intro X hP hw hK hc i pins s σ H E I hf st hg
    subst hP hw hK
    obtain ⟨f0, f1, f2, f3, f4, f5⟩ := hf it (by simp)
    have W := Walks.range (prog := X.prog) (w := X.w) (I.ok.hd hc) it lo 1 n
    refine W.item i s _ _ hg st fun v h' tk hv st' kk => ?_
    obtain ⟨t, rfl⟩ := hv
    have I1 : Inv X pins σ H { s with heap := h', toks := tk } := I.turned (fun b o hb e => kk b o (by simpa using hb) e) f0 f1 f3 f4 f5
    refine ⟨_, rfl, go_of (s := { s with heap := h', toks := tk }) (n := "range_iterator") st' rfl rfl (by decide) ⟨.int (lo + i), H, I1, ⟨t, ?_⟩, ⟨rfl, rfl⟩, st', fun b hb => (hf b hb).1⟩⟩
    rw [Int.mul_one]
  done := by
    intro X hP hw hK hc i pins s σ H E I hf st hg
    subst hP hw hK
    obtain ⟨f0, f1, f2, f3, f4, f5⟩ := hf it (by simp)
    exact wpAny_pyNext_range_end (I.ok.hd hc) st (by have : n ≤ i := hg; omega) fun h' eb => ⟨rfl, I.turned (t' := s.toks) (fun b o hb e => eb b o hb e) f0 f1 f3 f4 f5⟩
  self := fun _ _ _ _ _ st h => wpAny_pyIter_rangeiter st h
end L2
namespace L2
open PySem PySem.Spec PyProof.Rows
section
variable {X : Cx} {tg : Expr}
def iList (K : PySem.W.Frag) (tl : TE) : TI := fun σ H R => tl σ H fun x H1 => ∃ a, x = .ref a ∧ (∃ xs, SqL K H1 a xs) ∧ R (Itl K a) H1
theorem pi_list {l : Expr} {tl : TE} (hl : PE X l tl) : PI X tg l (iList X.K tl) := by
  intro pins s σ H R I h
  refine thn (hl pins s σ H _ I h) fun v s1 ⟨x, H1, I1, r1, q1⟩ => ?_
  obtain ⟨a, e, ⟨xs, hq⟩, q⟩ := q1
  subst e
  cases r1
  obtain ⟨its, rv, p, hz⟩ := I1.list hq
  refine wpAny_pyIter_list p.isList ?_
  refine ⟨s1.heap.objs.size, [s1.heap.objs.size], _, _, H1, rfl, I1.kept (t' := s1.toks) fun b o e => Heap.get?_push_of_some _ e, turn_list a _, ⟨_, Heap.get?_push_size _ rfl, rfl, rfl⟩, fun b hb => ?_, q⟩
  have e : b = s1.heap.objs.size := by simpa using hb
  subst e
  exact I1.fpOk (Nat.le_refl _) (I1.hok.fresh (Nat.le_refl _))
theorem range_it {pins : List (Addr × Obj)} {σ : St} {H : Hp} {s : Shared} {R : It → Hp → Prop} {E : Value → Shared → Prop} {lo hi : Int} {t u v : Tok} {tk : Nat} (I : Inv X pins σ H s) (h1 : -(2 ^ 62) ≤ lo) (h2 : lo < 2 ^ 62) (h3 : -(2 ^ 62) ≤ hi) (h4 : hi < 2 ^ 62)
    (q : R (Itr lo (hi - lo).toNat) H) : wpAny (model X.prog X.w) X.A (pyIter (.ref s.heap.objs.size)) (PIE X pins σ tg R) E { s with heap := s.heap.push { cls := .type "range", data := .fields #[.int lo t, .int hi u, .int 1 v] }, toks := tk } := by
  refine wpAny_pyIter_range (IsRange.new ..) (small_one h1 h2 h3 h4) ?_
  have I1 : Inv X pins σ H { s with heap := s.heap.push { cls := .type "range", data := .fields #[.int lo t, .int hi u, .int 1 v] }, toks := tk } := I.kept fun b o e => Heap.get?_push_of_some _ e
  refine ⟨(s.heap.push { cls := .type "range", data := .fields #[.int lo t, .int hi u, .int 1 v] }).objs.size, [(s.heap.push { cls := .type "range", data := .fields #[.int lo t, .int hi u, .int 1 v] }).objs.size], _, _, H, rfl,
    I1.kept (t' := tk) fun b o e => Heap.get?_push_of_some _ e, turn_range _ lo (hi - lo).toNat, ?_, fun b hb => ?_, q⟩
  · have e1 : lo + ((0 : Nat) : Int) * 1 = lo := by simp
    have e2 : (((hi - lo).toNat : Nat) : Int) - ((0 : Nat) : Int) = Builtin.Range.rangeSize lo hi 1 := by rw [rangeSize_one]; split <;> omega
    show IsRangeIter _ _ (lo + ((0 : Nat) : Int) * 1) ((((hi - lo).toNat : Nat) : Int) - ((0 : Nat) : Int)) 1
    rw [e1, e2]
    exact Heap.get?_push_size _ rfl
  · have e : b = (s.heap.push { cls := .type "range", data := .fields #[.int lo t, .int hi u, .int 1 v] }).objs.size := by simpa using hb
    subst e
    exact I1.fpOk (Nat.le_refl _) (I1.hok.fresh (Nat.le_refl _))
def iRng1 (ta : TA) : TI := fun σ H R => ta σ H fun vs H1 => ∃ j : Int, vs = [.int j] ∧ -(2 ^ 62) ≤ j ∧ j < 2 ^ 62 ∧ R (Itr 0 j.toNat) H1
theorem pi_range1 {a : Expr} {ta : TA} {p pos : Pos} (hg : Gl X "range") (hm : X.mg "range" = none) (ha : PA X [a] ta) (hs : starEach [a] X.env = [(false, eval a X.env)] := by rfl) : PI X tg (.Call (.Name "range" p) [a] [] pos) (iRng1 ta) := by
  intro pins s σ H R I h
  refine Call_ (ld_blt I hg hm boot_range (PyProof.Rows.callWith_type1 (thn (ha pos pins s σ H _ I h) fun us s1 ⟨vs, H1, I1, r1, q1⟩ => ?_) hs rfl))
  obtain ⟨j, e, q1, q2, q⟩ := q1
  subst e
  cases r1 with
  | cons r rr =>
    cases rr
    obtain ⟨t, rfl⟩ := r
    exact call_range_1 (range_it I1 (by omega) (by omega) q1 q2 (by simpa using q))
def tFor (wi : TI) (g : TG) (tb : TS) : TS := fun D σ H => wi σ H fun J H1 => ∃ W : Nat → Nat → St → Hp → Prop, (∃ m, W 0 m σ H1) ∧ ∀ i m σ H, W i m σ H →
  (J.stop i H ∧ D.nx σ H) ∨ (J.go i H ∧ ∃ N : St → Hp → Prop, (∀ σ' H', N σ' H' → ∃ m', m' < m ∧ W (i + 1) m' σ' H') ∧ ∀ x H', J.yld i H x H' → g x σ H' fun σ2 H2 => tb { D with nx := N, ct := N, bk := D.nx } σ2 H2)
def pinsAt (fp : List Addr) (h : Heap) : List (Addr × Obj) := fp.filterMap fun b => (h.get? b).map fun o => (b, o)
theorem mem_pinsAt {fp : List Addr} {h : Heap} {b : Addr} {o : Obj} (hb : b ∈ fp) (e : h.get? b = some o) : (b, o) ∈ pinsAt fp h := List.mem_filterMap.mpr ⟨b, hb, by rw [e]; rfl⟩
theorem of_pinsAt {fp : List Addr} {h : Heap} {p : Addr × Obj} (hp : p ∈ pinsAt fp h) : p.1 ∈ fp ∧ h.get? p.1 = some p.2 := by
  obtain ⟨b, hb, e⟩ := List.mem_filterMap.mp hp
  cases q : h.get? b with
  | none => rw [q] at e; cases e
  | some o =>
    rw [q] at e
    have e' : (b, o) = p := Option.some.inj e
    subst e'
    exact ⟨hb, q⟩
theorem Inv.pinned {pins : List (Addr × Obj)} {σ : St} {H : Hp} {s : Shared} {fp : List Addr} (I : Inv X pins σ H s) (hf : ∀ b ∈ fp, FpOk X pins H b) (ho : ∀ b ∈ fp, ∃ o, s.heap.get? b = some o ∧ ∀ v, o.data ≠ .cell v) : Inv X (pins ++ pinsAt fp s.heap) σ H s :=
  I.pins_of fun p hp => (List.mem_append.mp hp).elim (fun z => I.pin p (List.mem_append_right _ z)) fun z => by
    obtain ⟨hb, e⟩ := of_pinsAt z
    obtain ⟨f0, f1, f2, _⟩ := hf p.1 hb
    obtain ⟨o, e', d⟩ := ho p.1 hb
    rw [e] at e'; cases e'
    exact ⟨e, f0, f1, f2, d⟩
theorem Inv.unpinned {pins pl : List (Addr × Obj)} {σ : St} {H : Hp} {s : Shared} (I : Inv X (pins ++ pl) σ H s) : Inv X pins σ H s := I.pins_of fun p hp => I.pin p (List.mem_append_right _ (List.mem_append_left _ hp))
theorem ps_for {iter : Expr} {body : List Stmt} {wi : TI} {g : TG} {tb : TS} {pos : Pos} (hp : PassesOwn (model X.prog X.w) X.A X.env X.xe) (hc : X.calm = true) (hi : PI X tg iter wi) (hg : PG X tg g) (hb : PSs X body tb)
    (hs : ∀ x, foldedSetIterable iter X.env x = pure x := by intro _; rfl) : PS X (.For tg iter body [] pos) (tFor wi g tb) := by
  intro pins s σ H D I h
  refine wpAny_For (thn (hi pins s σ H _ I h) fun v s1 h1 => thn h1 fun itv s2 h2 => ?_) hs
  obtain ⟨it, fp, tn, J, H2, e, I2, T, st2, f2, W, ⟨m0, w0⟩, turn⟩ := h2
  subst e
  have stat : ∀ {H' : Hp}, (∀ b ∈ fp, H' b = none) → ∀ b ∈ fp, FpOk X pins H' b := fun hn b hb => ⟨hn b hb, (f2 b hb).2⟩
  refine codeAny_forLoop_any (fun n s' => ∃ i σ' H', Inv X pins σ' H' s' ∧ tn i s'.heap ∧ (∀ b ∈ fp, H' b = none) ∧ W i n σ' H') ?_ m0 ⟨0, σ, H2, I2, st2, fun b hb => (f2 b hb).1, w0⟩
  rintro n s3 ⟨i, σ3, H3, I3, st3, fr3, w3⟩
  rcases turn i n σ3 H3 w3 with ⟨stop, qn⟩ | ⟨go, N, hN, step⟩
  · refine wpAny_passesOwn hp (thn (T.done X rfl rfl rfl hc i pins s3 σ3 H3 X.xe I3 (stat fr3) st3 stop) fun r s4 ⟨hr, I4⟩ => ?_)
    subst hr
    exact wpAny_execs_nil ⟨σ3, H3, I4, qn⟩
  · refine wpAny_passesOwn hp (thn (T.item X rfl rfl rfl hc i pins s3 σ3 H3 X.xe I3 (stat fr3) st3 go) fun r s4 ⟨u, hr, h4⟩ => ?_)
    subst hr
    refine wpAny_passesOwn hp (thn h4 fun _ s5 ⟨x, H5, I5, r5, y5, st5, fr5⟩ => ?_)
    have I5' := I5.pinned (stat fr5) (T.obj _ _ st5)
    refine wpAny_passesOwn hp (thn (hg _ s5 σ3 H5 x u _ I5' r5 (step x H5 y5)) fun _ s6 ⟨σ6, H6, I6, q6⟩ => ?_)
    refine wpAny_passesOwn hp (thn (hb _ s6 σ6 H6 _ I6 q6) fun f s7 q7 => ?_)
    have again : ∀ {σ7 : St} {H7 : Hp}, Inv X (pins ++ pinsAt fp s5.heap) σ7 H7 s7 → N σ7 H7 → ∃ m, m < n ∧ ∃ i σ' H', Inv X pins σ' H' s7 ∧ tn i s7.heap ∧ (∀ b ∈ fp, H' b = none) ∧ W i m σ' H' := fun {σ7 H7} I7 n7 => by
      obtain ⟨m', hm, w7⟩ := hN σ7 H7 n7
      refine ⟨m', hm, i + 1, σ7, H7, I7.unpinned, T.keep _ _ _ st5 fun b hb o e => (I7.pin (b, o) (List.mem_append_right _ (List.mem_append_right _ (mem_pinsAt hb e)))).1, fun b hb => ?_, w7⟩
      obtain ⟨o, e, d⟩ := T.obj _ _ st5 b hb
      exact (I7.pin (b, o) (List.mem_append_right _ (List.mem_append_right _ (mem_pinsAt hb e)))).2.1
    cases f with
    | next => obtain ⟨σ7, H7, I7, n7⟩ := q7; exact again I7 n7
    | cont => obtain ⟨σ7, H7, I7, n7⟩ := q7; exact again I7 n7
    | brk => obtain ⟨σ7, H7, I7, q7⟩ := q7; exact ⟨σ7, H7, I7.unpinned, q7⟩
    | ret v => obtain ⟨x7, σ7, H7, I7, r7, q7⟩ := q7; exact ⟨x7, σ7, H7, I7.unpinned, r7, q7⟩
end
end L2
namespace L2
open PySem PySem.Spec PyProof.Rows
abbrev R2 := V → V → Hp → VK → Prop
def OpR (X : Cx) (f : Value → Value → Sem Value) (r : R2) : Prop :=
  ∀ (pins : List (Addr × Obj)) (s : Shared) (σ : St) (H : Hp) (x y : V) (v u : Value) (Q : VK), Inv X pins σ H s → RelV x v → RelV y u → r x y H Q →
    wpAny (model X.prog X.w) X.A (f v u) (EP X pins σ Q) X.xe s
def UnR (X : Cx) (f : Value → Sem Value) (r : V → Hp → VK → Prop) : Prop :=
  ∀ (pins : List (Addr × Obj)) (s : Shared) (σ : St) (H : Hp) (x : V) (v : Value) (Q : VK), Inv X pins σ H s → RelV x v → r x H Q →
    wpAny (model X.prog X.w) X.A (f v) (EP X pins σ Q) X.xe s
def CallR (X : Cx) (f : Value) (r : List V → Hp → VK → Prop) : Prop :=
  ∀ (pins : List (Addr × Obj)) (s : Shared) (σ : St) (H : Hp) (xs : List V) (us : List Value) (Q : VK), Inv X pins σ H s → Vals xs us → r xs H Q →
    wpAny (model X.prog X.w) X.A (call f us) (EP X pins σ Q) X.xe s
def tOp (r : R2) (ta tb : TE) : TE := fun σ H Q => ta σ H fun x H1 => tb σ H1 fun y H2 => r x y H2 Q
def tUn (r : V → Hp → VK → Prop) (ta : TE) : TE := fun σ H Q => ta σ H fun x H1 => r x H1 Q
def rI (C : Int → Int → Prop) (g : Int → Int → V) : R2 := fun x y H Q => ∃ i j, x = .int i ∧ y = .int j ∧ C i j ∧ Q (g i j) H
def rI0 (g : Int → Int → V) : R2 := fun x y H Q => ∃ i j, x = .int i ∧ y = .int j ∧ Q (g i j) H
def rU (g : Int → V) : V → Hp → VK → Prop := fun x H Q => ∃ i, x = .int i ∧ Q (g i) H
section
variable {X : Cx} {a b c : Expr} {ta tb tc : TE} {pos : Pos}
theorem binT (ha : PE X a ta) (hb : PE X b tb) {pins : List (Addr × Obj)} {s : Shared} {σ : St} {H : Hp} {R : V → V → Hp → Prop} (I : Inv X pins σ H s)
    (h : ta σ H fun x H1 => tb σ H1 fun y H2 => R x y H2) {Q : Value → Shared → Prop} {f : Value → Value → Sem Value}
    (hf : ∀ v u s2 x y H2, Inv X pins σ H2 s2 → RelV x v → RelV y u → R x y H2 → wpAny (model X.prog X.w) X.A (f v u) Q X.xe s2) :
    wpAny (model X.prog X.w) X.A (eval a X.env) (fun v s₁ => wpAny (model X.prog X.w) X.A (eval b X.env) (fun u s₂ => wpAny (model X.prog X.w) X.A (f v u) Q X.xe s₂) X.xe s₁) X.xe s := by
  refine thn (ha pins s σ H _ I h) fun v s1 ⟨x, H1, I1, r1, q1⟩ => ?_
  refine thn (hb pins s1 σ H1 _ I1 q1) fun u s2 ⟨y, H2, I2, r2, q2⟩ => ?_
  exact hf v u s2 x y H2 I2 r1 r2 q2
theorem pe_op {op : Operator} {r : R2} (ho : OpR X (binaryOp op) r) (ha : PE X a ta) (hb : PE X b tb) : PE X (.BinOp a op b pos) (tOp r ta tb) := by
  intro pins s σ H Q I h
  exact wpAny_BinOp (binT ha hb I h fun v u s2 x y H2 I2 rx ry q => ho pins s2 σ H2 x y v u Q I2 rx ry q)
theorem pe_un {op : UnaryOp} {r : V → Hp → VK → Prop} (ho : UnR X (unaryOp op) r) (ha : PE X a ta) : PE X (.UnaryOp op a pos) (tUn r ta) := by
  intro pins s σ H Q I h
  exact UnaryOp_ (thn (ha pins s σ H _ I h) fun v s1 ⟨x, H1, I1, r1, q1⟩ => ho pins s1 σ H1 x v Q I1 r1 q1)
theorem opI {f : Value → Value → Sem Value} {C : Int → Int → Prop} {g : Int → Int → Int}
    (rule : ∀ (i j : Int) (t u : Tok) (s : Shared) (Q : Value → Shared → Prop) (E : Value → Shared → Prop), C i j → Q (.int (g i j) s.toks) { s with toks := s.toks + 1 } → wpAny (model X.prog X.w) X.A (f (.int i t) (.int j u)) Q E s) :
    OpR X f (rI C fun i j => .int (g i j)) := by
  intro pins s σ H x y v u Q I rx ry h
  obtain ⟨i, j, rfl, rfl, hc, q⟩ := h
  obtain ⟨t, rfl⟩ := rx
  obtain ⟨t', rfl⟩ := ry
  exact rule i j t t' s _ _ hc ⟨.int (g i j), H, I.tok _, ⟨_, rfl⟩, q⟩
theorem opI0 {f : Value → Value → Sem Value} {g : Int → Int → Int}
    (rule : ∀ (i j : Int) (t u : Tok) (s : Shared) (Q : Value → Shared → Prop) (E : Value → Shared → Prop), Q (.int (g i j) s.toks) { s with toks := s.toks + 1 } → wpAny (model X.prog X.w) X.A (f (.int i t) (.int j u)) Q E s) :
    OpR X f (rI0 fun i j => .int (g i j)) := by
  intro pins s σ H x y v u Q I rx ry h
  obtain ⟨i, j, rfl, rfl, q⟩ := h
  obtain ⟨t, rfl⟩ := rx
  obtain ⟨t', rfl⟩ := ry
  exact rule i j t t' s _ _ ⟨.int (g i j), H, I.tok _, ⟨_, rfl⟩, q⟩
theorem opB0 {f : Value → Value → Sem Value} {g : Int → Int → Bool}
    (rule : ∀ (i j : Int) (t u : Tok) (s : Shared) (Q : Value → Shared → Prop) (E : Value → Shared → Prop), Q (.bool (g i j)) s → wpAny (model X.prog X.w) X.A (f (.int i t) (.int j u)) Q E s) :
    OpR X f (rI0 fun i j => .bl (g i j)) := by
  intro pins s σ H x y v u Q I rx ry h
  obtain ⟨i, j, rfl, rfl, q⟩ := h
  obtain ⟨t, rfl⟩ := rx
  obtain ⟨t', rfl⟩ := ry
  exact rule i j t t' s _ _ ⟨.bl (g i j), H, I, rfl, q⟩
def CPow (i j : Int) : Prop := 0 ≤ j ∧ j ≤ 1000000 ∧ i.natAbs < 2 ^ 64
def CMul (i j : Int) : Prop := (-(2 ^ 64) < i ∧ i < 2 ^ 64) ∨ (-(2 ^ 64) < j ∧ j < 2 ^ 64)
theorem CMul.ok {i j : Int} (h : CMul i j) : IntMulOk i j := by
  rcases h with ⟨h1, h2⟩ | ⟨h1, h2⟩
  · exact .of_left (intBits_le_64 h1 h2)
  · exact .of_right (intBits_le_64 h1 h2)
theorem op_add : OpR X (binaryOp .Add) (rI0 fun i j => .int (i + j)) := opI0 fun _ _ _ _ _ _ _ q => add_int q
theorem op_sub : OpR X (binaryOp .Sub) (rI0 fun i j => .int (i - j)) := opI0 fun _ _ _ _ _ _ _ q => sub_int q
theorem op_mul : OpR X (binaryOp .Mult) (rI CMul fun i j => .int (i * j)) := opI fun _ _ _ _ _ _ _ hc q => mul_int q hc.ok
theorem op_mod : OpR X (binaryOp .Mod) (rI (fun _ j => 0 < j) fun i j => .int (i % j)) := opI fun i j _ _ _ _ _ hc q => by
  have h1 : (0 : Int) < j := hc
  exact mod_int' (by omega) (by rw [Int.fmod_eq_emod_of_nonneg i (by omega)]; exact q)
theorem op_pow : OpR X (binaryOp .Pow) (rI CPow fun i j => .int (i ^ j.toNat)) := opI fun _ _ _ _ _ _ _ hc q => pow_int_small hc.1 hc.2.1 hc.2.2 q
theorem unI {f : Value → Sem Value} {g : Int → Int}
    (rule : ∀ (i : Int) (t : Tok) (s : Shared) (Q : Value → Shared → Prop) (E : Value → Shared → Prop), Q (.int (g i) s.toks) { s with toks := s.toks + 1 } → wpAny (model X.prog X.w) X.A (f (.int i t)) Q E s) :
    UnR X f (rU fun i => .int (g i)) := by
  intro pins s σ H x v Q I rx h
  obtain ⟨i, rfl, q⟩ := h
  obtain ⟨t, rfl⟩ := rx
  exact rule i t s _ _ ⟨.int (g i), H, I.tok _, ⟨_, rfl⟩, q⟩
theorem un_neg : UnR X (unaryOp .USub) (rU fun i => .int (-i)) := unI fun _ _ _ _ _ q => neg_int q
end
section
variable {X : Cx} {a b c : Expr} {ta tb tc : TE} {pos : Pos}
theorem fin_bl {pins : List (Addr × Obj)} {σ : St} {H : Hp} {s : Shared} {Q : VK} {k k' : Bool} (I : Inv X pins σ H s) (q : Q (.bl k) H) (e : k = k') : EP X pins σ Q (.bool k') s := by
  subst e
  exact ⟨.bl k, H, I, rfl, q⟩
theorem op_lt : OpR X (compareOp .Lt) (rI0 fun i j => .bl (decide (i < j))) := opB0 fun _ _ _ _ _ _ _ q => lt_int q
theorem op_le : OpR X (compareOp .LtE) (rI0 fun i j => .bl (decide (i ≤ j))) := opB0 fun _ _ _ _ _ _ _ q => le_int q
theorem op_gt : OpR X (compareOp .Gt) (rI0 fun i j => .bl (decide (j < i))) := opB0 fun _ _ _ _ _ _ _ q => gt_int q
theorem op_isN : OpR X (compareOp .Is) (fun x y H Q => y = .non ∧ Q (.bl (decide (x = .non))) H) := by
  intro pins s σ H x y v u Q I rx ry h
  obtain ⟨rfl, q⟩ := h
  cases ry
  refine is_none_gen (fin_bl I q ?_)
  cases x <;> first
    | (cases rx; rfl)
    | (obtain ⟨t, rfl⟩ := rx; rfl)
theorem nomark (b : Expr) {op : CmpOp} (h : op ≠ .In := by decide) (h2 : op ≠ .NotIn := by decide) : behindInMarks op b = false := by
  have e1 : (op == CmpOp.In) = false := by cases op <;> first | rfl | exact absurd rfl h
  have e2 : (op == CmpOp.NotIn) = false := by cases op <;> first | rfl | exact absurd rfl h2
  cases b <;> simp [behindInMarks, e1, e2]
theorem pe_cmpR {op : CmpOp} {r : R2} (ho : OpR X (compareOp op) r) (ha : PE X a ta) (hb : PE X b tb) (hm : behindInMarks op b = false) : PE X (.Compare a [op] [b] pos) (tOp r ta tb) := by
  intro pins s σ H Q I h
  exact wpAny_Compare1 (binT ha hb I h fun v u s2 x y H2 I2 rx ry q => ho pins s2 σ H2 x y v u Q I2 rx ry q) hm
def tTest (t : TE) : TT := fun σ H Q => t σ H fun x H' => ∃ k, x = .bl k ∧ Q k H'
theorem pt_cmpR {op : CmpOp} {r : R2} (ho : OpR X (compareOp op) r) (ha : PE X a ta) (hb : PE X b tb) (hm : behindInMarks op b = false) : PT X (.Compare a [op] [b] pos) (tTest (tOp r ta tb)) := by
  intro pins s σ H Q I h
  refine wpAny_isTrue_Compare1 (thn (ha pins s σ H _ I h) fun v s1 ⟨x, H1, I1, r1, q1⟩ => thn (hb pins s1 σ H1 _ I1 q1) fun u s2 ⟨y, H2, I2, r2, q2⟩ =>
    thn (ho pins s2 σ H2 x y v u _ I2 r1 r2 q2) fun c s3 ⟨z, H3, I3, r3, k, e, q3⟩ => ?_) hm
  subst e
  cases r3
  exact wpAny_truthy_bool ⟨H3, I3, q3⟩
def tChain (r r' : R2) (ta tb tc : TE) : TE := fun σ H Q => ta σ H fun x H1 => tb σ H1 fun y H2 => r x y H2 fun z H3 => ∃ k, z = .bl k ∧
  (if k = true then tc σ H3 fun w' H4 => r' y w' H4 Q else Q (.bl false) H3)
theorem pe_chain {op op' : CmpOp} {r r' : R2} (ho : OpR X (compareOp op) r) (ho' : OpR X (compareOp op') r') (ha : PE X a ta) (hb : PE X b tb) (hc : PE X c tc)
    (hm : lastMarks [op, op'] [b, c] = false := by with_unfolding_all rfl) : PE X (.Compare a [op, op'] [b, c] pos) (tChain r r' ta tb tc) := by
  intro pins s σ H Q I h
  refine Compare_chain (thn (ha pins s σ H _ I h) fun v s1 ⟨x, H1, I1, r1, q1⟩ => chain_link (thn (hb pins s1 σ H1 _ I1 q1) fun u s2 ⟨y, H2, I2, r2, q2⟩ =>
    thn (ho pins s2 σ H2 x y v u _ I2 r1 r2 q2) fun d s3 ⟨z, H3, I3, r3, k, e, q3⟩ => ?_)) hm
  subst e
  cases r3
  refine wpAny_truthy_bool ?_
  cases k with
  | false => exact ite_ff ⟨.bl false, H3, I3, rfl, q3⟩
  | true => exact ite_tt (chain_last (thn (hc pins s3 σ H3 _ I3 q3) fun w' s4 ⟨z', H4, I4, r4, q4⟩ => ho' pins s4 σ H4 y z' u w' Q I4 r2 r4 q4))
theorem pt_chain {op op' : CmpOp} {r r' : R2} (ho : OpR X (compareOp op) r) (ho' : OpR X (compareOp op') r') (ha : PE X a ta) (hb : PE X b tb) (hc : PE X c tc)
    (hm : lastMarks [op, op'] [b, c] = false := by with_unfolding_all rfl) : PT X (.Compare a [op, op'] [b, c] pos) (tTest (tChain r r' ta tb tc)) := by
  intro pins s σ H Q I h
  refine isTrue_chain (thn (ha pins s σ H _ I h) fun v s1 ⟨x, H1, I1, r1, q1⟩ => test_link (thn (hb pins s1 σ H1 _ I1 q1) fun u s2 ⟨y, H2, I2, r2, q2⟩ =>
    thn (ho pins s2 σ H2 x y v u _ I2 r1 r2 q2) fun d s3 ⟨z, H3, I3, r3, k, e, q3⟩ => ?_)) hm
  subst e
  cases r3
  refine wpAny_truthy_bool ?_
  cases k with
  | false =>
    obtain ⟨k', e', q'⟩ := q3
    cases e'
    exact ite_ff ⟨H3, I3, q'⟩
  | true =>
    refine ite_tt (test_last (thn (hc pins s3 σ H3 _ I3 q3) fun w' s4 ⟨z', H4, I4, r4, q4⟩ => thn (ho' pins s4 σ H4 y z' u w' _ I4 r2 r4 q4) fun d' s5 ⟨z2, H5, I5, r5, k2, e2, q5⟩ => ?_))
    subst e2
    cases r5
    exact wpAny_truthy_bool ⟨H5, I5, q5⟩
theorem line63 : (sizeLine : Nat) < 2 ^ 63 := by rw [sizeLine_eq]; decide
theorem vals1 {x : V} {us : List Value} (r : Vals [x] us) : ∃ u, us = [u] ∧ RelV x u := by
  cases r with
  | cons r1 r2 => cases r2; exact ⟨_, rfl, r1⟩
theorem vals2 {x y : V} {us : List Value} (r : Vals [x, y] us) : ∃ u w', us = [u, w'] ∧ RelV x u ∧ RelV y w' := by
  cases r with
  | cons r1 r2 =>
    cases r2 with
    | cons r3 r4 => cases r4; exact ⟨_, _, rfl, r1, r3⟩
theorem call_max2 (hc : X.calm = true) : CallR X (.builtin "max") (fun xs H Q => ∃ i j, xs = [.int i, .int j] ∧ Q (.int (if j > i then j else i)) H) := by
  intro pins s σ H xs us Q I r h
  obtain ⟨i, j, rfl, q⟩ := h
  obtain ⟨u, w', rfl, ⟨t, rfl⟩, ⟨t', rfl⟩⟩ := vals2 r
  refine max_two_ints (I.ok.hd hc) fun h' tk k => ⟨_, H, I.kept k, ?_, q⟩
  by_cases hj : j > i
  · rw [if_pos hj, if_pos hj]; exact ⟨_, rfl⟩
  · rw [if_neg hj, if_neg hj]; exact ⟨_, rfl⟩
theorem call_int1 : CallR X (.type "int") (fun xs H Q => (∃ i, xs = [.int i] ∧ Q (.int i) H) ∨ ∃ k, xs = [.bl k] ∧ Q (.int (if k then 1 else 0)) H) := by
  intro pins s σ H xs us Q I r h
  rcases h with ⟨i, rfl, q⟩ | ⟨k, rfl, q⟩
  · obtain ⟨u, rfl, t, rfl⟩ := vals1 r
    exact call_int_int ⟨.int i, H, I, ⟨_, rfl⟩, q⟩
  · obtain ⟨u, rfl, r1⟩ := vals1 r
    cases r1
    exact call_int_bool ⟨.int (if k then 1 else 0), H, I.tok _, ⟨_, rfl⟩, q⟩
theorem call_bool1 : CallR X (.type "bool") (fun xs H Q => (∃ i, xs = [.int i] ∧ Q (.bl (i != 0)) H) ∨ ∃ k, xs = [.bl k] ∧ Q (.bl k) H) := by
  intro pins s σ H xs us Q I r h
  rcases h with ⟨i, rfl, q⟩ | ⟨k, rfl, q⟩
  · obtain ⟨u, rfl, t, rfl⟩ := vals1 r
    exact call_bool_int ⟨.bl (i != 0), H, I, rfl, q⟩
  · obtain ⟨u, rfl, r1⟩ := vals1 r
    cases r1
    exact call_bool_bool ⟨.bl k, H, I, rfl, q⟩
end
end L2
namespace L2
open PySem PySem.Spec PyProof.Rows
structure ObjM (h : Heap) (x dx C : Addr) (mA : Str → Option Value) : Prop where
  obj : h.get? x = some (PySem.W.instObj C dx)
  ns : h.Ns1 dx mA
  ne : dx ≠ x
theorem lookIn_ns {h : Heap} {dx : Addr} {mA : Str → Option Value} (n : h.Ns1 dx mA) : ∃ od, h.get? dx = some od ∧ ∀ name, PySem.W.lookIn name od = some (mA name) := by
  obtain ⟨o, es, ep, ho, hd, hk, _, hm⟩ := n
  refine ⟨o, ho, fun name => ?_⟩
  have e := hm name
  unfold nsFind findBy at e
  rw [← Array.find?_toList] at e
  unfold PySem.W.lookIn
  rw [hd]
  dsimp only
  split
  · rename_i y q
    rw [q] at e
    exact congrArg some e
  · rename_i q
    rw [q] at e
    have a : es.toList.any (·.refKey) = false := by
      rw [List.any_eq_false]
      intro y hy
      obtain ⟨z, t, hkey⟩ := hk y (Array.mem_toList_iff.mp hy)
      simp [DictEntry.refKey, hkey]
    have a' : ¬ es.toList.any (·.refKey) = true := by rw [a]; exact Bool.false_ne_true
    rw [if_neg a']
    exact congrArg some e
theorem ObjM.look {h : Heap} {x dx C : Addr} {mA : Str → Option Value} (I : ObjM h x dx C mA) : ∃ od, PySem.W.InstAt h x (PySem.W.instObj C dx) C (some od) ∧ ∀ name, PySem.W.lookIn name od = some (mA name) :=
  let ⟨od, ho, hl⟩ := lookIn_ns I.ns
  ⟨od, ⟨I.obj, rfl, rfl, ho⟩, hl⟩
section
variable {prog : Program} {w : World} {A : Around} {E : Value → Shared → Prop} {s : Shared} {K : PySem.W.Frag} {x dx C f : Addr} {mA : Str → Option Value} {name : Str} {v : Value}
end
section
variable {P : Program} {w : World} {H H' : Hp} {h h' : Heap} {a C dx : Addr} {fs fs' : List (Str × V)}
theorem ins_get (hok : HOk P w H h) (e : H a = some (.ins C dx fs)) : ∃ mA, ObjM h a dx C mA ∧ (∀ f, RelO (fs.lookup f) (mA f)) ∧ PySem.Within mA (fs.map (·.1)) ∧ fs.length ≤ 1000 ∧ H dx = some (.own a) := by
  obtain ⟨d, z, ne, ob, mA, n, r, q⟩ := (show ObjOk P w H h a (.ins C dx fs) from hok a _ e)
  exact ⟨mA, ⟨ob, n, ne⟩, r, q, z, d⟩
end
structure Cls (K : PySem.W.Frag) (C : Addr) : Prop where
  pg : PySem.W.plainGet K C Str.empty = true
  hd : PySem.W.hasDictIn K C = true
  po : PySem.W.plainOver K C = true
  sa : PySem.W.findIn K (.ref C) "__setattr__" = some (some (.builtin "object.__setattr__"))
theorem Cls.get {K : PySem.W.Frag} {C : Addr} (c : Cls K C) (f : Str) : PySem.W.plainGet K C f = true := c.pg
structure Con (K : PySem.W.Frag) (C : Addr) (f : Str) (v : V) (u : Value) : Prop where
  at_ : PySem.W.findIn K (.ref C) f = some (some u)
  rel : RelV v u
  get : PySem.W.specialIn K u "__get__" = some none
  cp : PySem.W.copiedNames.contains f = false
structure Meth (K : PySem.W.Frag) (C : Addr) (m : Str) (f : Addr) : Prop where
  at_ : PySem.W.findIn K (.ref C) m = some (some (.ref f))
  fn : PySem.W.isFn K (.ref f) = true
  kp : PySem.W.keepIn K (.ref f) = true
section
variable {X : Cx} {pins : List (Addr × Obj)} {σ : St} {H : Hp} {s : Shared} {a C dx : Addr} {fs : List (Str × V)} {f : Str} {v : V} {A : Around} {E : Value → Shared → Prop}
end
section
variable {X : Cx} {o e value : Expr} {f : Str} {pos pos' tpos : Pos} {ta tv : TE}
end
section
variable {X : Cx} {pins : List (Addr × Obj)} {σ : St} {H : Hp} {s : Shared} {A : Around} {E : Value → Shared → Prop} {Q : Value → Shared → Prop} {c : Value} {b : Bool}
inductive TyOf (K : PySem.W.Frag) (H : Hp) : V → Value → Prop where
  | non : TyOf K H .non (.type "NoneType")
  | bl (x : Bool) : TyOf K H (.bl x) (.type "bool")
  | int (i : Int) : TyOf K H (.int i) (.type "int")
  | str (x : Str) : TyOf K H (.str x) (.type "str")
  | flt (x : UInt64) : TyOf K H (.flt x) (.type "float")
  | lst {a : Addr} {xs : List V} (e : H a = some (.lst xs)) : TyOf K H (.ref a) (.type "list")
  | frz {a : Addr} {o : Obj} {xs : List V} (e : H a = some (.frz o (.lst xs))) : TyOf K H (.ref a) (.type "list")
  | tup {a : Addr} {xs : List V} (e : H a = some (.tup xs)) : TyOf K H (.ref a) (.type "tuple")
  | dK {a : Addr} {kvs : List (Key × V)} (e : H a = some (.dK kvs)) : TyOf K H (.ref a) (.type "dict")
  | dT {a : Addr} {kvs : List (List Key × V)} (e : H a = some (.dT kvs)) : TyOf K H (.ref a) (.type "dict")
  | ins {a C dx : Addr} {fs : List (Str × V)} (e : H a = some (.ins C dx fs)) (cl : Cls K C) (ha : PySem.W.findIn K (.ref C) "__class__" = some (some (.builtin "object.__class__")))
      (hn : PySem.W.specialIn K (.builtin "object.__class__") "__get__" = some (some (.builtin "getset_descriptor.__get__"))) (htk : PySem.W.takesIn K (.builtin "object.__class__") = some true)
      (hm : PySem.W.mroIn K C (.type "object") = some true) : TyOf K H (.ref a) (.ref C)
theorem isinst_ok {x : V} {u t : Value} (I : Inv X pins σ H s) (rx : RelV x u) (ty : TyOf X.K H x t) (e : PySem.W.kitOne X.K t c = some b) (h : ∀ tk, Q (.bool b) { s with toks := tk }) :
    wpAny (model X.prog X.w) A (call (.builtin "isinstance") [u, c]) Q E s := by
  cases ty with
  | non => cases (show u = Value.none from rx); exact PySem.W.kia_one PySem.W.kitx_none I.kIn True.intro e (fun z => nomatch z) h
  | bl y => cases (show u = Value.bool y from rx); exact PySem.W.kia_one PySem.W.kitx_bool I.kIn True.intro e (fun z => nomatch z) h
  | int i => obtain ⟨t, q⟩ := (show ∃ t, u = Value.int i t from rx); cases q; exact PySem.W.kia_one PySem.W.kitx_int I.kIn True.intro e (fun z => nomatch z) h
  | str y => obtain ⟨t, q⟩ := (show ∃ t, u = Value.str y t from rx); cases q; exact PySem.W.kia_one PySem.W.kitx_str I.kIn True.intro e (fun z => nomatch z) h
  | flt y => obtain ⟨t, q⟩ := (show ∃ t, u = Value.float y t from rx); cases q; exact PySem.W.kia_one PySem.W.kitx_float I.kIn True.intro e (fun z => nomatch z) h
  | @lst a xs ea =>
    cases (show u = Value.ref a from rx)
    obtain ⟨_, _, n, _, h1⟩ := (show ObjOk X.prog X.w H s.heap a (.lst xs) from I.hok a _ ea)
    exact PySem.W.kia_one PySem.W.kitx_list I.kIn ⟨_, h1, rfl⟩ e (fun z => nomatch z) h
  | @frz a ob xs ea =>
    cases (show u = Value.ref a from rx)
    obtain ⟨_, _, _, n, _, h1⟩ := (show ObjOk X.prog X.w H s.heap a (.frz ob (.lst xs)) from I.hok a _ ea)
    exact PySem.W.kia_one PySem.W.kitx_list I.kIn ⟨_, h1, rfl⟩ e (fun z => nomatch z) h
  | @tup a xs ea =>
    cases (show u = Value.ref a from rx)
    obtain ⟨_, _, _, p⟩ := (show ObjOk X.prog X.w H s.heap a (.tup xs) from I.hok a _ ea)
    obtain ⟨o, h1, h2, _⟩ := p
    exact PySem.W.kia_one PySem.W.kitx_tuple I.kIn ⟨o, h1, h2⟩ e (fun z => nomatch z) h
  | @dK a kvs ea =>
    cases (show u = Value.ref a from rx)
    obtain ⟨_, _, vs, _, p⟩ := (show ObjOk X.prog X.w H s.heap a (.dK kvs) from I.hok a _ ea)
    obtain ⟨o, es, ep, h1, h2, _⟩ := p
    exact PySem.W.kia_one PySem.W.kitx_dict I.kIn ⟨o, h1, h2.1⟩ e (fun z => nomatch z) h
  | @dT a kvs ea =>
    cases (show u = Value.ref a from rx)
    obtain ⟨_, _, xs, _, o, es, ep, h1, h2, _⟩ := (show ObjOk X.prog X.w H s.heap a (.dT kvs) from I.hok a _ ea)
    exact PySem.W.kia_one PySem.W.kitx_dict I.kIn ⟨o, h1, h2.1⟩ e (fun z => nomatch z) h
  | @ins a C dx fs ea cl ha hn htk hm =>
    cases (show u = Value.ref a from rx)
    obtain ⟨mA, O, _⟩ := ins_get I.hok ea
    obtain ⟨od, J, _⟩ := O.look
    exact PySem.W.kia_one (PySem.W.kitx_own (cl.get _) cl.hd ha hn htk hm) I.kIn J e (fun z => nomatch z) h
end
end L2
namespace L2
open PySem PySem.Spec PyProof.Rows
structure Room (k : Nat) (A : Around) : Prop where
  hd : A.handled = none
  dp : A.depth + 3 * k + 5 < recursionLimit
  un : A.units + 16 * k + 200 < cLine
theorem Room.mono {j k : Nat} {A : Around} (r : Room k A) (h : j ≤ k) : Room j A := ⟨r.hd, by have := r.dp; omega, by have := r.un; omega⟩
theorem Room.deeper {k : Nat} {A : Around} (r : Room (k + 1) A) (env : Env) : Room k (A.deeper env) :=
  ⟨r.hd, by have := r.dp; show A.depth + 1 + 3 * k + 5 < _; omega, by have := r.un; show A.units + 3 + 16 * k + 200 < _; omega⟩
theorem Room.depth {k : Nat} {A : Around} (r : Room k A) : A.depth < recursionLimit := by have := r.dp; omega
theorem Room.units {k : Nat} {A : Around} (r : Room k A) : A.units + 64 < cLine := by have := r.un; omega
def tNil : TA := fun _ H Q => Q [] H
def tCons (ta : TE) (tr : TA) : TA := fun σ H Q => ta σ H fun x H1 => tr σ H1 fun xs H2 => Q (x :: xs) H2
section
variable {X : Cx} {e : Expr} {es : List Expr} {te : TE} {t : TA} {pos : Pos}
theorem pa_nil : PA X [] tNil := fun _ _ _ _ H Q I h => Calls.spliced_nil ⟨[], H, I, .nil, h⟩
theorem pa_cons (ha : PE X e te) (hr : PA X es t) (hs : starEach (e :: es) X.env = (false, eval e X.env) :: starEach es X.env := by rfl) : PA X (e :: es) (tCons te t) := by
  intro pos pins s σ H Q I h
  rw [hs]
  show wpAny _ _ (spliced ((false, eval e X.env) :: backTo pos (starEach es X.env))) _ _ s
  refine Calls.spliced_cons (thn (ha pins s σ H _ I h) fun u s1 ⟨x, H1, I1, r1, q1⟩ => ?_)
  exact thn (hr pos pins s1 σ H1 _ I1 q1) fun us s2 ⟨xs, H2, I2, r2, q2⟩ => ⟨x :: xs, H2, I2, .cons r1 r2, q2⟩
def tTup (t : TA) : TE := fun σ H Q => t σ H fun xs H1 => xs.length ≤ sizeLine ∧ ∀ p, H1 p = none → Q (.ref p) (upd H1 p (.tup xs))
def tLst (t : TA) : TE := fun σ H Q => t σ H fun xs H1 => xs.length ≤ sizeLine ∧ ∀ p, H1 p = none → Q (.ref p) (upd H1 p (.lst xs))
theorem pe_tup {x1} (h : PA X es t) : PE X (.Tuple es x1 pos) (tTup t) := by
  intro pins s σ H Q I hq
  refine wpAny_Tuple_spliced (thn (h pos pins s σ H _ I hq) fun us s1 ⟨xs, H1, I1, r, z, q⟩ => ⟨by rw [← r.length]; exact z, ?_⟩)
  have hf : H1 s1.heap.objs.size = none := I1.hok.fresh (Nat.le_refl _)
  refine ⟨.ref s1.heap.objs.size, upd H1 s1.heap.objs.size (.tup xs), I1.laid (t' := s1.toks) (fun b u e => Heap.get?_push_of_some _ e) (Nat.le_refl _) ?_, rfl, q _ hf⟩
  exact ⟨z, us, r, ⟨_, Heap.get?_push_size _ rfl, rfl, _, rfl⟩⟩
theorem pe_lst (h : PA X es t) : PE X (.List es pos) (tLst t) := by
  intro pins s σ H Q I hq
  refine wpAny_List_spliced (thn (h pos pins s σ H _ I hq) fun us s1 ⟨xs, H1, I1, r, z, q⟩ => ⟨by rw [← r.length]; exact z, ?_⟩)
  have hf : H1 s1.heap.objs.size = none := I1.hok.fresh (Nat.le_refl _)
  refine ⟨.ref s1.heap.objs.size, upd H1 s1.heap.objs.size (.lst xs), I1.laid (t' := s1.toks) (fun b u e => Heap.get?_push_of_some _ e) (Nat.le_refl _) ?_, rfl, q _ hf⟩
  exact ⟨z, us, 0, r, Heap.get?_push_size _ rfl⟩
end
abbrev Sp := List V → Hp → VK → XK → Prop
abbrev CXT := List Env → Hp → Shared → XK → Value → Shared → Prop
structure Env0 (P : Program) (w : World) (K : PySem.W.Frag) (mg : Str → Option Value) (base : Heap) (A : Around) (outer : List Env) (s : Shared) (H : Hp) : Prop where
  frames : A.frames = some outer
  mod : Mod K mg base
  bs : ∀ b o, base.get? b = some o → s.heap.get? b = some o ∧ H b = none
  bsz : base.objs.size ≤ s.heap.objs.size
  funs : s.heap.FunFrames base outer
  frf : ∀ b ∈ frs outer, H b = none
  hok : HOk P w H s.heap
  bare : AllBare s.gens
def CE (outer : List Env) (P : Program) (w : World) (H : Hp) (s : Shared) (Q : VK) (u : Value) (s' : Shared) : Prop :=
  ∃ v H', s'.os = s.os ∧ AllBare s'.gens ∧ Un (frs outer) [] H H' s.heap s'.heap ∧ HOk P w H' s'.heap ∧ RelV v u ∧ Q v H'
def CR (CX : CXT) (outer : List Env) (P : Program) (w : World) (H : Hp) (s : Shared) (Q : VK) (E : XK) (r : Result) (s' : Shared) : Prop :=
  match r with
  | .ok (.ret u) => CE outer P w H s Q u s'
  | .ok _ => False
  | .error e => CX outer H s E e s'
structure FnOk (P : Program) (w : World) (K : PySem.W.Frag) (mg : Str → Option Value) (base : Heap) (CX : CXT) (k : Nat) (f : Addr) (fd : FuncData) (ps : List Str) (sp : Sp) : Prop where
  len : ∀ vs H Q E, sp vs H Q E → vs.length = ps.length
  run : ∀ (A : Around) (outer : List Env) (s : Shared) (H : Hp) (args : Args) (us : List Value) (vs : List V) (Q : VK) (E : XK), Room k A → Env0 P w K mg base A outer s H → BindsTo s fd args (ps.zip us) → Vals vs us → sp vs H Q E →
    codeAny (model P w) A (.call (.ref f) args) (CR CX outer P w H s Q E) s
theorem FnOk.mono {P : Program} {w : World} {K : PySem.W.Frag} {mg : Str → Option Value} {base : Heap} {CX : CXT} {j k : Nat} {f : Addr} {fd : FuncData} {ps : List Str} {sp : Sp} (F : FnOk P w K mg base CX j f fd ps sp) (h : j ≤ k) :
    FnOk P w K mg base CX k f fd ps sp := ⟨F.len, fun A outer s H args us vs Q E hr => F.run A outer s H args us vs Q E (hr.mono h)⟩
theorem FnOk.imp {P : Program} {w : World} {K : PySem.W.Frag} {mg : Str → Option Value} {base : Heap} {CX : CXT} {k : Nat} {f : Addr} {fd : FuncData} {ps : List Str} {sp sp' : Sp} (F : FnOk P w K mg base CX k f fd ps sp)
    (h : ∀ vs H Q E, sp' vs H Q E → sp vs H Q E) : FnOk P w K mg base CX k f fd ps sp' :=
  ⟨fun vs H Q E q => F.len vs H Q E (h _ _ _ _ q), fun A outer s H args us vs Q E hr he hb hv hs => F.run A outer s H args us vs Q E hr he hb hv (h _ _ _ _ hs)⟩
section
variable {X : Cx} {pins : List (Addr × Obj)} {σ : St} {H : Hp} {s s' : Shared}
theorem Inv.env0 (I : Inv X pins σ H s) : Env0 X.prog X.w X.K X.mg X.base X.A X.stack s H :=
  ⟨I.ok.frames, I.ok.mod, I.bs, Nat.le_trans I.ok.bsz I.sz, I.stack, I.stkFree, I.hok, I.bare⟩
theorem Inv.after {Q : VK} {u : Value} (I : Inv X pins σ H s) (h : CE X.stack X.prog X.w H s Q u s') : EP X pins σ Q u s' := by
  obtain ⟨v, H', os, bare, un, hok, r, q⟩ := h
  obtain ⟨hh, g, d, t, os'⟩ := s'
  obtain rfl : os' = s.os := os
  exact ⟨v, H', I.call (h' := hh) (g' := g) (d' := d) (t' := t) (ch := []) un hok bare (fun b z => absurd z (by simp)), r, q⟩
end
def tCall (sp : Sp) (dvs : List V) (E : XK) (t : TA) : TE := fun σ H Q => t σ H fun vs H1 => sp (vs ++ dvs) H1 Q E
def Binds (K : PySem.W.Frag) (fd : FuncData) (ps : List Str) (ds : List Value) : Prop :=
  ∀ (s : Shared) (us : List Value), K.In s.heap → (us ++ ds).length = ps.length → BindsTo s fd ⟨us, []⟩ (ps.zip (us ++ ds))
theorem Binds.all {K : PySem.W.Frag} {fd : FuncData} {ps : List Str} (h : ∀ us : List Value, us.length = ps.length → bindArgs fd ⟨us, []⟩ = pure (ps.zip us)) : Binds K fd ps [] := fun s us _ hl => by
  rw [List.append_nil] at hl ⊢
  exact .of_eq (h us hl)
def Passes (CX : CXT) (X : Cx) (E : XK) : Prop := ∀ (pins : List (Addr × Obj)) (σ : St) (H : Hp) (s : Shared) (e : Value) (s' : Shared), Inv X pins σ H s → CX X.stack H s E e s' → X.xe e s'
section
variable {X : Cx} {CX : CXT} {k : Nat} {f C : Addr} {fd : FuncData} {ps : List Str} {sp : Sp} {dvs : List V} {ds : List Value} {E : XK} {x m : Str} {p pos apos : Pos} {e o : Expr} {es : List Expr} {ta : TE} {t : TA}
theorem run_fn {pins : List (Addr × Obj)} {σ : St} {H : Hp} {s : Shared} {Q : VK} {us : List Value} {vs : List V} (F : FnOk X.prog X.w X.K X.mg X.base CX k f fd ps sp) (hr : Room k X.A) (hb : Binds X.K fd ps ds) (hd : Vals dvs ds) (hx : Passes CX X E)
    (I : Inv X pins σ H s) (r : Vals vs us) (h : sp (vs ++ dvs) H Q E) : wpAny (model X.prog X.w) X.A (call (.ref f) us) (EP X pins σ Q) X.xe s := by
  have r2 : Vals (vs ++ dvs) (us ++ ds) := r.append hd
  have hl : (us ++ ds).length = ps.length := by rw [← r2.length]; exact F.len _ _ _ _ h
  refine wpAny_call (codeAny_mono (F.run X.A X.stack s H ⟨us, []⟩ (us ++ ds) (vs ++ dvs) Q E hr I.env0 (hb s us I.kIn hl) r2 h) fun r s' hq => ?_)
  cases r with
  | error e => exact hx pins σ H s e s' I hq
  | ok fl =>
    cases fl with
    | ret u => exact I.after hq
    | next => exact False.elim hq
    | brk => exact False.elim hq
    | cont => exact False.elim hq
theorem pe_call (F : FnOk X.prog X.w X.K X.mg X.base CX k f fd ps sp) (hr : Room k X.A) (hg : Gl X x) (hm : X.mg x = some (.ref f)) (hk : PySem.W.keepIn X.K (.ref f) = true) (hb : Binds X.K fd ps ds) (hd : Vals dvs ds) (hx : Passes CX X E)
    (ha : PA X (e :: es) t) (hdb : (x == ("__debug__" : Str)) = false := by decide) (he : starEach (e :: es) X.env = (false, eval e X.env) :: starEach es X.env := by rfl) (hpl : (backTo pos (starEach es X.env)).any (·.1) = false := by rfl) :
    PE X (.Call (.Name x p) (e :: es) [] pos) (tCall sp dvs E t) := by
  intro pins s σ H Q I h
  refine wpAny_Call_Name_kw (ld_glob I hg hm ?_ hdb)
  refine PySem.W.callWith_K (h₀ := X.base) I.ok.mod.kin hk (thn (ha pos pins s σ H _ I h) fun us s1 ⟨vs, H1, I1, r, q⟩ => ⟨I1.kIn, ?_⟩) he hpl
  exact run_fn F hr hb hd hx I1 r q
structure Mk (K : PySem.W.Frag) (C f : Addr) : Prop where
  makes : PySem.W.makesIn K C = true
  init : PySem.W.findIn K (.ref C) "__init__" = some (some (.ref f))
  fn : PySem.W.isFn K (.ref f) = true
  kp : PySem.W.keepIn K (.ref C) = true
end
def PK (X : Cx) (kws : List Keyword) (t : TA) : Prop :=
  ∀ (pos : Pos) (pins : List (Addr × Obj)) (s : Shared) (σ : St) (H : Hp) (Q : List V → Hp → Prop), Inv X pins σ H s → t σ H Q → wpAny (model X.prog X.w) X.A (evalAll ((backToKw pos (keywordEach kws X.env)).map (·.2))) (AP X pins σ Q) X.xe s
section
variable {X : Cx} {CX : CXT} {k : Nat} {f C : Addr} {fd : FuncData} {ps ks : List Str} {sp : Sp} {E : XK} {x m : Str} {p pos apos kpos : Pos} {e o : Expr} {es : List Expr} {kws : List Keyword} {te ta : TE} {t tk : TA} {nm : Option Str}
structure KBinds (K : PySem.W.Frag) (fd : FuncData) (ps ks : List Str) (g : List Value → List Value → List Value) (gV : List V → List V → List V) : Prop where
  to : ∀ (s : Shared) (us ws : List Value), K.In s.heap → (g us ws).length = ps.length → BindsTo s fd ⟨us, ks.zip ws⟩ (ps.zip (g us ws))
  rel : ∀ {vs : List V} {us : List Value} {zs : List V} {ws : List Value}, Vals vs us → Vals zs ws → Vals (gV vs zs) (g us ws)
variable {g : List Value → List Value → List Value} {gV : List V → List V → List V}
end
structure FnScope (N P : List Str) (sc : Scope) : Prop where
  kind : sc.kind = .function
  co : sc.isCoroutine = false
  gen : sc.isGenerator = false
  nd : N.Nodup
  pre : N.take P.length = P
  par : ∀ x ∈ P, sc.names.lookup x = some .local ∨ sc.names.lookup x = some .cell
  nofree : ∀ y ∈ sc.names, y.2 ≠ .free
theorem bindL_out {kindOf : Str → Option NameKind} {x : Str} : ∀ {binds : List (Str × Value)} {m : Str → Option Value}, (∀ v, (x, v) ∉ binds) → bindL kindOf binds m x = m x
  | [], _, _ => rfl
  | (n, v) :: r, m, h => by
    unfold bindL
    rw [bindL_out fun w hw => h w (List.mem_cons_of_mem _ hw)]
    split
    · have : x ≠ n := by rintro rfl; exact h v List.mem_cons_self
      simp [this]
    · rfl
theorem bindC_out {kindOf : Str → Option NameKind} {x : Str} : ∀ {binds : List (Str × Value)} {m : Str → Option Value}, (∀ v, (x, v) ∉ binds) → bindC kindOf binds m x = m x
  | [], _, _ => rfl
  | (n, v) :: r, m, h => by
    unfold bindC
    rw [bindC_out fun w hw => h w (List.mem_cons_of_mem _ hw)]
    split
    · rfl
    · have : x ≠ n := by rintro rfl; exact h v List.mem_cons_self
      simp [this]
theorem bindL_get {kindOf : Str → Option NameKind} {x : Str} {v : Value} : ∀ {P : List Str} {vs : List Value} {i : Nat} {m : Str → Option Value}, P.Nodup → P[i]? = some x → vs[i]? = some v → kindOf x = some .local →
    bindL kindOf (P.zip vs) m x = some v
  | [], _, _, _, _, h, _, _ => by simp at h
  | _ :: _, [], _, _, _, _, h, _ => by simp at h
  | p :: P, w :: vs, 0, m, nd, h1, h2, hk => by
    simp at h1 h2; subst h1; subst h2
    show bindL kindOf ((p, w) :: P.zip vs) m p = _
    unfold bindL
    rw [bindL_out fun v hv => (List.nodup_cons.mp nd).1 (List.of_mem_zip hv).1, if_pos hk]
    simp
  | p :: P, w :: vs, i + 1, m, nd, h1, h2, hk => by
    show bindL kindOf ((p, w) :: P.zip vs) m x = _
    unfold bindL
    exact bindL_get (i := i) (List.nodup_cons.mp nd).2 (by simpa using h1) (by simpa using h2) hk
theorem bindC_get {kindOf : Str → Option NameKind} {x : Str} {v : Value} : ∀ {P : List Str} {vs : List Value} {i : Nat} {m : Str → Option Value}, P.Nodup → P[i]? = some x → vs[i]? = some v → kindOf x ≠ some .local →
    bindC kindOf (P.zip vs) m x = some v
  | [], _, _, _, _, h, _, _ => by simp at h
  | _ :: _, [], _, _, _, _, h, _ => by simp at h
  | p :: P, w :: vs, 0, m, nd, h1, h2, hk => by
    simp at h1 h2; subst h1; subst h2
    show bindC kindOf ((p, w) :: P.zip vs) m p = _
    unfold bindC
    rw [bindC_out fun v hv => (List.nodup_cons.mp nd).1 (List.of_mem_zip hv).1, if_neg hk]
    simp
  | p :: P, w :: vs, i + 1, m, nd, h1, h2, hk => by
    show bindC kindOf ((p, w) :: P.zip vs) m x = _
    unfold bindC
    exact bindC_get (i := i) (List.nodup_cons.mp nd).2 (by simpa using h1) (by simpa using h2) hk
def start (N : List Str) (vs : List V) : St := vs.map some ++ List.replicate (N.length - vs.length) none
def cxOf (CX : CXT) (P : Program) (w : World) (K : PySem.W.Frag) (mg : Str → Option Value) (base : Heap) (N : List Str) (qual : Str) (scope : Scope) (f : Addr) (cd : Value) (A : Around) (outer : List Env) (s : Shared) (H : Hp) (E : XK) : Cx where
  prog := P
  w := w
  K := K
  mg := mg
  base := base
  A := A.deeper (envOfC qual scope s.heap.objs.size f cd)
  N := N
  s₀ := s
  H₀ := H
  env := envOfC qual scope s.heap.objs.size f cd
  outer := outer
  stack := envOfC qual scope s.heap.objs.size f cd :: outer
  ex := []
  calm := true
  fn := fun _ => true
  pn := []
  xe := fun e s' => wpAny (model P w) (A.deeper (envOfC qual scope s.heap.objs.size f cd)) (leaving (envOfC qual scope s.heap.objs.size f cd) e) (fun _ s'' => CX outer H s E e s'') (fun e' s'' => CX outer H s E e' s'') s'
theorem cell_has {sc : Scope} {n : Nat} {x : Str} (h : sc.names.lookup x = some .cell) : ∃ c, (cellsFrom n sc.names []).lookup x = some c := by
  have q := PySem.W.cellsFrom_some sc.names n [] (.inl h)
  exact Option.isSome_iff_exists.mp q
theorem inv_start {CX : CXT} {P : Program} {w : World} {K : PySem.W.Frag} {mg : Str → Option Value} {base : Heap} {N ps : List Str} {qual : Str} {scope : Scope} {f : Addr} {cd : Value} {A : Around} {outer : List Env} {s s1 : Shared} {H : Hp} {E : XK} {us : List Value} {vs : List V}
    (S : FnScope N ps scope) (hd : A.handled = none) (e0 : Env0 P w K mg base A outer s H) (hl : vs.length = ps.length) (r : Vals vs us)
    (x : InCallC s s.heap.objs.size (bindL (envOfC qual scope s.heap.objs.size f cd).kindOf (ps.zip us) fun _ => none) (cellsFrom (s.heap.objs.size + 1) scope.names []) (bindC (envOfC qual scope s.heap.objs.size f cd).kindOf (ps.zip us) fun _ => none) s1) :
    Inv (cxOf CX P w K mg base N qual scope f cd A outer s H E) [] (start N vs) H s1 := by
  have hpl : ps.length ≤ N.length := by have := congrArg List.length S.pre; rw [List.length_take] at this; omega
  obtain ⟨h1, tk, rfl, hk⟩ := x.done
  have noA : ∀ b : Addr, b ∉ (cxOf CX P w K mg base N qual scope f cd A outer s H E).ex := fun b z => absurd (show b ∈ ([] : List Addr) from z) (by simp)
  refine ⟨⟨e0.mod, S.kind, rfl, rfl, Nat.le_refl _, fun y z c h1 h2 => ?_, fun y hy => ?_, fun y c _ h => ?_, fun _ => hd, Around.frames_deeper e0.frames, .inr ⟨rfl, rfl⟩, fun b z => absurd z (noA b), e0.bs, e0.bsz, fun b _ _ => noA b, fun b z => absurd z (noA b), e0.funs, e0.frf⟩,
    rfl, e0.bare, Un.kept hk, ⟨_, x.toInCall.ns, fun i y v h1 h2 h3 => ?_⟩, fun y c h => ⟨_, x.cell y c h⟩, e0.hok.fresh (Nat.le_refl _), fun y c h => ?_, fun p hp => absurd (show p ∈ ([] : List (Addr × Obj)) from hp) (by simp), e0.hok.kept hk, ?_⟩
  · exact name_of_addr x.apart (PySem.mem_of_lookup h1) (PySem.mem_of_lookup h2)
  · have hy : scope.names.lookup y = some .cell ∨ scope.names.lookup y = some .free := hy
    rcases hy with hy | hy
    · exact cell_has hy
    · exact absurd rfl (S.nofree _ (PySem.mem_of_lookup hy))
  · exact Nat.le_of_lt (x.above y c (PySem.mem_of_lookup h))
  · have hi : i < vs.length := by
      unfold start at h2
      by_cases hi : i < vs.length
      · exact hi
      · rw [List.getElem?_append_right (by simpa using hi)] at h2
        rw [List.getElem?_replicate] at h2
        split at h2 <;> cases h2
    have ha : vs[i]? = some v := by
      unfold start at h2
      rw [List.getElem?_append_left (by simpa using hi), List.getElem?_map] at h2
      cases e : vs[i]? with
      | none => rw [e] at h2; cases h2
      | some a => rw [e] at h2; cases h2; rfl
    obtain ⟨u, hu, rv⟩ := r.get ha
    have hp : ps[i]? = some y := by
      rw [← S.pre, List.getElem?_take_of_lt (by omega)]; exact h1
    have ndP : ps.Nodup := by rw [← S.pre]; exact S.nd.sublist (List.take_sublist _ _)
    refine ⟨u, rv, ?_⟩
    rcases S.par y (List.mem_of_getElem? hp) with k | k
    · exact .inl ⟨k, bindL_get ndP hp hu k⟩
    · obtain ⟨c, e⟩ := cell_has (n := s.heap.objs.size + 1) k
      refine .inr ⟨.inl k, c, e, ?_⟩
      have q := x.cell y c e
      rw [bindC_get ndP hp hu (by show scope.names.lookup y ≠ _; rw [k]; decide)] at q
      exact q
  · exact e0.hok.fresh (Nat.le_of_lt (x.above y c (PySem.mem_of_lookup h)))
  · unfold start
    show _ = N.length
    rw [List.length_append, List.length_map, List.length_replicate]
    omega
theorem fn_of {CX : CXT} {P : Program} {w : World} {K : PySem.W.Frag} {mg : Str → Option Value} {base : Heap} {k : Nat} {f : Addr} {name qual : Str} {params : Arguments} {body : List Stmt} {scope : Scope} {dV kV doc pm cdv ct oc : Value} {an od : Option Addr}
    {osl : Array (Option Value)} {N ps : List Str} {sp : Sp} (lk : K.lookup f = some ⟨oc, od, .func (PySem.W.fnOf name qual params body scope dV kV doc pm an cdv ct), osl⟩) (hcd : PySem.W.codeIn K cdv qual = true) (S : FnScope N ps scope)
    (len : ∀ vs H Q E, sp vs H Q E → vs.length = ps.length)
    (hbody : ∀ (A : Around) (outer : List Env) (s : Shared) (H : Hp) (vs : List V) (Q : VK) (E : XK), Room k (A.deeper (envOfC qual scope s.heap.objs.size f cdv)) → sp vs H Q E →
      ∃ t, PSs (cxOf CX P w K mg base N qual scope f cdv A outer s H E) body t ∧ t { nx := fun _ H' => Q .non H', rt := Q } (start N vs) H) :
    FnOk P w K mg base CX (k + 1) f (PySem.W.fnOf name qual params body scope dV kV doc pm an cdv ct) ps sp := by
  refine ⟨len, fun A outer s H args us vs Q E hr e0 hb r hsp => ?_⟩
  have hl := len _ _ _ _ hsp
  have KX : K.In s.heap := e0.mod.kin.keeps fun b o e => (e0.bs b o e).1
  have lim : s.heap.NoLimit := e0.mod.nolimit.keeps fun b o e => (e0.bs b o e).1
  have hkind : ∀ y ∈ ps.zip us, scope.names.lookup y.1 = some .local ∨ (scope.names.lookup y.1 = some .cell ∧ ((cellsFrom (s.heap.objs.size + 1) scope.names []).lookup y.1).isSome = true) := fun ⟨n, v⟩ hy => by
    rcases S.par n (List.of_mem_zip hy).1 with q | q
    · exact .inl q
    · exact .inr ⟨q, PySem.W.cellsFrom_some _ _ _ (.inl q)⟩
  refine codeAny_call_function hr.depth (KX _ _ lk) rfl S.co S.gen rfl (PySem.W.codeRec_of KX hcd) (hb _ _ _ _ ?_)
  refine wpAny_newFunctionEnv_cells S.kind hkind fun env he s1 x => ?_
  subst he
  refine ⟨lim.keeps x.toInCall.keep, codeAny_func ?_⟩
  obtain ⟨t, ht, hq⟩ := hbody A outer s H vs Q E (hr.deeper _) hsp
  have I : Inv (cxOf CX P w K mg base N qual scope f cdv A outer s H E) [] (start N vs) H s1 := inv_start S hr.hd e0 hl r x
  refine wpAny_mono (ht [] s1 (start N vs) H _ I hq) (fun fl s' hs => ?_) fun e s' hs => hs
  have fin : ∀ {σ' : St} {H' : Hp} {v : V} {u : Value}, Inv (cxOf CX P w K mg base N qual scope f cdv A outer s H E) [] σ' H' s' → RelV v u → Q v H' → CE outer P w H s Q u s' :=
    fun {σ' H' v u} J rv q => ⟨v, H', J.os, J.bare, J.base, J.hok, rv, q⟩
  cases fl with
  | ret u =>
    obtain ⟨v, σ', H', J, rv, q⟩ := hs
    exact fin J rv q
  | next =>
    obtain ⟨σ', H', J, q⟩ := hs
    exact fin (v := V.non) (u := Value.none) J rfl q
  | brk =>
    obtain ⟨_, _, _, q⟩ := hs
    exact False.elim q
  | cont =>
    obtain ⟨_, _, _, q⟩ := hs
    exact False.elim q
end L2
namespace L2
open PySem PySem.Spec PyProof.Rows
section
variable {X : Cx} {x : Str} {p pos : Pos} {e : Expr} {es : List Expr} {t : TA} {id T : String} {r : List V → Hp → VK → Prop}
def tCB (r : List V → Hp → VK → Prop) (t : TA) : TE := fun σ H Q => t σ H fun vs H1 => r vs H1 Q
theorem pe_callB (hc : CallR X (.builtin id) r) (hg : Gl X x) (hm : X.mg x = none) (hv : bootBuiltins x = some (.builtin id)) (ha : PA X (e :: es) t) (hn : x ≠ "__name__" := by decide) (hdb : (x == ("__debug__" : Str)) = false := by decide)
    (he : starEach (e :: es) X.env = (false, eval e X.env) :: starEach es X.env := by rfl) (hpl : (backTo pos (starEach es X.env)).any (·.1) = false := by rfl) : PE X (.Call (.Name x p) (e :: es) [] pos) (tCB r t) := by
  intro pins s σ H Q I h
  refine wpAny_Call_Name_kw (ld_blt I hg hm hv ?_ hn hdb)
  exact PyProof.Rows.callWith_builtin1 (thn (ha pos pins s σ H _ I h) fun us s1 ⟨vs, H1, I1, r1, q1⟩ => hc pins s1 σ H1 vs us Q I1 r1 q1) he hpl
theorem pe_callTy (hc : CallR X (.type T) r) (hg : Gl X x) (hm : X.mg x = none) (hv : bootBuiltins x = some (.type T)) (ha : PA X (e :: es) t) (hn : x ≠ "__name__" := by decide) (hdb : (x == ("__debug__" : Str)) = false := by decide)
    (he : starEach (e :: es) X.env = (false, eval e X.env) :: starEach es X.env := by rfl) (hpl : (backTo pos (starEach es X.env)).any (·.1) = false := by rfl) : PE X (.Call (.Name x p) (e :: es) [] pos) (tCB r t) := by
  intro pins s σ H Q I h
  refine wpAny_Call_Name_kw (ld_blt I hg hm hv ?_ hn hdb)
  exact PyProof.Rows.callWith_type1 (thn (ha pos pins s σ H _ I h) fun us s1 ⟨vs, H1, I1, r1, q1⟩ => hc pins s1 σ H1 vs us Q I1 r1 q1) he hpl
end
end L2
namespace HT
open PySem PyProof.Rows
section
open PySem.SeqAt
open PySem.AutoSeq1 (wpAny_loadPart')
open PySem.MeetsSeq PySem.MeetsSeq2 PySem.MeetsSeq3
end
section
variable {prog : Program} {w : World} {A : Around} {E : Value → Shared → Prop} {s : Shared}
def sIx (n d : Nat) : Option Int → Nat
  | none => d
  | some v => if v < 0 then (v + (n : Int)).toNat else min v.toNat n
end
end HT
namespace L2
open PySem PySem.Spec PyProof.Rows
abbrev TO := St → Hp → (Option Int → Hp → Prop) → Prop
def PO (X : Cx) (e : Option Expr) (t : TO) : Prop :=
  ∀ (pins : List (Addr × Obj)) (s : Shared) (σ : St) (H : Hp) (Q : Option Int → Hp → Prop), Inv X pins σ H s → t σ H Q →
    wpAny (model X.prog X.w) X.A (evalPart e X.env) (fun u s' => ∃ o H', Inv X pins σ H' s' ∧ IsPart u o ∧ Q o H') X.xe s
def tNoPart : TO := fun _ H Q => Q none H
def tPart (t : TE) : TO := fun σ H Q => t σ H fun x H1 => ∃ i, x = .int i ∧ Q (some i) H1
section
variable {X : Cx} {e : Expr} {te : TE} {lo hi : Option Expr} {tl th : TO} {pos p2 : Pos}
theorem po_none : PO X none tNoPart := by
  intro pins s σ H Q I h
  rw [evalPart_none]
  exact wpAny_pure ⟨none, H, I, .none, h⟩
theorem po_some (h : PE X e te) : PO X (some e) (tPart te) := by
  intro pins s σ H Q I hw
  rw [evalPart_some]
  refine thn (h pins s σ H _ I hw) fun u s1 ⟨x, H1, I1, r1, q1⟩ => ?_
  obtain ⟨i, rfl, q⟩ := q1
  obtain ⟨t, rfl⟩ := r1
  exact ⟨some i, H1, I1, .int i t, q⟩
def SlR (X : Cx) (r : V → Option Int → Option Int → Hp → VK → Prop) : Prop :=
  ∀ (pins : List (Addr × Obj)) (s : Shared) (σ : St) (H : Hp) (x : V) (v vl vu : Value) (lo hi : Option Int) (sl : Addr) (Q : VK), Inv X pins σ H s → RelV x v → s.heap.IsSliceOf sl vl vu .none → IsPart vl lo → IsPart vu hi → r x lo hi H Q →
    ∃ T id, typeLookup (.type T) "__getitem__" = pure (some (.builtin id)) ∧ s.TypeIs v T ∧ wpAny (model X.prog X.w) X.A (getItem v (.ref sl)) (EP X pins σ Q) X.xe s
def tSl (r : V → Option Int → Option Int → Hp → VK → Prop) (te : TE) (tl th : TO) : TE := fun σ H Q => te σ H fun x H1 => tl σ H1 fun l H2 => th σ H2 fun u H3 => r x l u H3 Q
theorem pe_slice {r : V → Option Int → Option Int → Hp → VK → Prop} (hr : SlR X r) (he : PE X e te) (hl : PO X lo tl) (hu : PO X hi th) : PE X (.Subscript e (.Slice lo hi none p2) pos) (tSl r te tl th) := by
  intro pins s σ H Q I h
  refine Subscript_ (thn (he pins s σ H _ I h) fun v s1 ⟨x, H1, I1, r1, q1⟩ => ?_)
  refine wpAny_Slice (thn (hl pins s1 σ H1 _ I1 q1) fun vl s2 ⟨l, H2, I2, pl, q2⟩ => thn (hu pins s2 σ H2 _ I2 q2) fun vu s3 ⟨u, H3, I3, pu, q3⟩ => ?_)
  rw [evalPart_none]
  refine wpAny_pure ?_
  have I4 : Inv X pins σ H3 { s3 with heap := s3.heap.push { cls := .type "slice", data := .fields #[vl, vu, .none] } } := I3.kept (t' := s3.toks) fun b ob q => Heap.get?_push_of_some _ q
  obtain ⟨T, id, hT, ht, hg⟩ := hr pins { s3 with heap := s3.heap.push { cls := .type "slice", data := .fields #[vl, vu, .none] } } σ H3 x v vl vu l u s3.heap.objs.size Q I4 r1 (Heap.IsSliceOf.new ..) pl pu q3
  show wpAny (model X.prog X.w) X.A (subscriptTail e (.Slice lo hi none p2) v (.ref s3.heap.objs.size)) (EP X pins σ Q) X.xe { s3 with heap := s3.heap.push { cls := .type "slice", data := .fields #[vl, vu, .none] } }
  exact tail_any (ops := [.ref s3.heap.objs.size, v]) ht hT hg (by with_unfolding_all rfl)
def cutV (xs : List V) (lo hi : Option Int) : List V := (xs.drop (HT.sIx xs.length 0 lo)).take (HT.sIx xs.length xs.length hi - HT.sIx xs.length 0 lo)
theorem cutV_length (xs : List V) (lo hi : Option Int) : (cutV xs lo hi).length ≤ xs.length := by
  unfold cutV
  rw [List.length_take, List.length_drop]
  omega
end
end L2
namespace L2
open PySem PySem.Spec PyProof.Rows
def ixN (n : Nat) (i : Int) : Option Nat := if 0 ≤ i then (if i < n then some i.toNat else none) else if -(n : Int) ≤ i then some (i + n).toNat else none
def atI {α : Type} (xs : List α) (i : Int) : Option α := (ixN xs.length i).bind fun j => xs[j]?
theorem ixN_seq {n : Nat} {i : Int} {j : Nat} (h : ixN n i = some j) : seqIndex? i n = some j ∧ j < n ∧ -(n : Int) ≤ i ∧ i < n := by
  unfold ixN at h
  by_cases h0 : 0 ≤ i
  · rw [if_pos h0] at h
    by_cases h1 : i < n
    · rw [if_pos h1] at h
      have e : i.toNat = j := Option.some.inj h
      exact ⟨by rw [seqIndex_of h0 h1, e], by omega, by omega, h1⟩
    · rw [if_neg h1] at h; cases h
  · rw [if_neg h0] at h
    by_cases h1 : -(n : Int) ≤ i
    · rw [if_pos h1] at h
      have e : (i + n).toNat = j := Option.some.inj h
      exact ⟨by rw [seqIndex_neg (by omega) h1, e], by omega, h1, by omega⟩
    · rw [if_neg h1] at h; cases h
theorem atI_get {α : Type} {xs : List α} {i : Int} {v : α} (h : atI xs i = some v) : ∃ j, seqIndex? i xs.length = some j ∧ xs[j]? = some v ∧ j < xs.length ∧ -(xs.length : Int) ≤ i ∧ i < xs.length := by
  unfold atI at h
  cases e : ixN xs.length i with
  | none => rw [e] at h; cases h
  | some j =>
    rw [e] at h
    obtain ⟨h1, h2, h3, h4⟩ := ixN_seq e
    exact ⟨j, h1, h, h2, h3, h4⟩
def PlainIx (b : Expr) : Prop := ∀ o i, subscripted b false o i = operate [o, i] (getItem o i)
def IxR (X : Cx) (r : R2) : Prop :=
  ∀ (value slice : Expr) (pins : List (Addr × Obj)) (s : Shared) (σ : St) (H : Hp) (x y : V) (v u : Value) (Q : VK), Inv X pins σ H s → RelV x v → RelV y u → r x y H Q →
    subscripted slice false v u = operate [v, u] (getItem v u) → wpAny (model X.prog X.w) X.A (subscriptTail value slice v u) (EP X pins σ Q) X.xe s
def MtR (X : Cx) (id : String) (r : V → List V → Hp → VK → Prop) : Prop :=
  ∀ (pins : List (Addr × Obj)) (s : Shared) (σ : St) (H : Hp) (x : V) (xs : List V) (v : Value) (us : List Value) (Q : VK), Inv X pins σ H s → RelV x v → Vals xs us → r x xs H Q →
    wpAny (model X.prog X.w) X.A (call (.builtin id) (v :: us)) (EP X pins σ Q) X.xe s
section
variable {X : Cx} {a b : Expr} {ta tb : TE} {pos : Pos}
theorem IxR.or {r r' : R2} (h : IxR X r) (h' : IxR X r') : IxR X (fun x y H Q => r x y H Q ∨ r' x y H Q) := by
  intro value slice pins s σ H x y v u Q I rx ry q hs
  rcases q with q | q
  · exact h value slice pins s σ H x y v u Q I rx ry q hs
  · exact h' value slice pins s σ H x y v u Q I rx ry q hs
theorem pe_ix {r : R2} (hr : IxR X r) (ha : PE X a ta) (hb : PE X b tb) (hs : PlainIx b) : PE X (.Subscript a b pos) (tOp r ta tb) := by
  intro pins s σ H Q I h
  exact Subscript_ (binT ha hb I h fun v u s2 x y H2 I2 rx ry q => hr a b pins s2 σ H2 x y v u Q I2 rx ry q (hs _ _))
def rIxL (K : PySem.W.Frag) : R2 := fun x y H Q => ∃ p xs i v, x = .ref p ∧ y = .int i ∧ SqL K H p xs ∧ atI xs i = some v ∧ Q v H
def rIxT (K : PySem.W.Frag) : R2 := fun x y H Q => ∃ p xs i v, x = .ref p ∧ y = .int i ∧ SqT K H p xs ∧ atI xs i = some v ∧ Q v H
def rIxS : R2 := fun x y H Q => ∃ z i c, x = .str z ∧ y = .int i ∧ z.length ≤ sizeLine ∧ atI z.cps.toList i = some c ∧ Q (.str ⟨#[c]⟩) H
theorem ix_list : IxR X (rIxL X.K) := by
  intro value slice pins s σ H x y v u Q I rx ry h hs
  obtain ⟨p, xs, i, z, rfl, rfl, hq, he, q⟩ := h
  cases rx
  obtain ⟨t, rfl⟩ := ry
  obtain ⟨its, r, pl, hz⟩ := I.list hq
  obtain ⟨j, h1, h2, h3, h4, h5⟩ := atI_get he
  obtain ⟨w, ew, rw'⟩ := r.get h2
  have hl := r.length
  have hn := line63
  have fin : EP X pins σ Q w s := ⟨z, H, I, rw', q⟩
  by_cases h0 : 0 ≤ i
  · have hj : i.toNat = j := by
      rw [seqIndex_of h0 h5] at h1
      exact Option.some.inj h1
    exact item_listR pl.isList h0 (by omega) (by rw [hj]; simpa using ew) fin hs
  · have hj : (i + (its.toArray.size : Int)).toNat = j := by
      rw [seqIndex_neg (by omega) h4] at h1
      rw [List.size_toArray, ← hl]
      exact Option.some.inj h1
    exact subscriptTail_builtinR (x := w) pl.isList.typeIs slot_list_getitem.lookup
      (wpAny_getItem_list_neg (Q := fun r s' => r = w ∧ EP X pins σ Q r s') pl.isList (by omega) (by rw [List.size_toArray] <;> omega) (by omega) (by rw [hj]; simpa using ew) ⟨rfl, fin⟩) hs
theorem ix_tup : IxR X (rIxT X.K) := by
  intro value slice pins s σ H x y v u Q I rx ry h hs
  obtain ⟨p, xs, i, z, rfl, rfl, hq, he, q⟩ := h
  cases rx
  obtain ⟨t, rfl⟩ := ry
  obtain ⟨its, r, pl, hz⟩ := I.tuple hq
  obtain ⟨j, h1, h2, h3, h4, h5⟩ := atI_get he
  obtain ⟨w, ew, rw'⟩ := r.get h2
  have hl := r.length
  have hn := line63
  have fin : EP X pins σ Q w s := ⟨z, H, I, rw', q⟩
  exact subscriptTail_builtinR (x := w) pl.typeIs slot_tuple_getitem.lookup
    (getItem_tuple (j := j) (Q := fun r s' => r = w ∧ EP X pins σ Q r s') pl (by omega) (by omega) (by rw [List.size_toArray, ← hl]; exact h1) (by simpa using ew) ⟨rfl, fin⟩) hs
theorem ix_str : IxR X rIxS := by
  intro value slice pins s σ H x y v u Q I rx ry h hs
  obtain ⟨z, i, c, rfl, rfl, hz, he, q⟩ := h
  obtain ⟨t, rfl⟩ := rx
  obtain ⟨t', rfl⟩ := ry
  obtain ⟨j, h1, h2, h3, h4, h5⟩ := atI_get he
  have hl : z.cps.toList.length = z.length := by simp [Str.length]
  rw [hl] at h1 h4 h5
  have hn := line63
  exact tail_any (typeIs_str s z t) slot_str_getitem.lookup (getItem_str (c := c) (by
    have e1 : decide (i < -(2 ^ 63 : Int)) = false := decide_eq_false (by omega)
    have e2 : decide (i ≥ 2 ^ 63) = false := decide_eq_false (by omega)
    rw [e1, e2, Bool.or_false]) (by rw [h1]; simpa using h2) ⟨.str ⟨#[c]⟩, H, I.tok _, ⟨_, rfl⟩, q⟩) hs
def rIx (K : PySem.W.Frag) : R2 := fun x y H Q => rIxL K x y H Q ∨ rIxT K x y H Q ∨ rIxS x y H Q
theorem ix_seq : IxR X (rIx X.K) := ix_list.or (ix_tup.or ix_str)
theorem mapSeq_set (its : List Value) (n j : Nat) (u : Value) : Obj.mapSeq (·.setIfInBounds j u) { cls := .type "list", data := .seq its.toArray n } = { cls := .type "list", data := .seq (its.set j u).toArray n } := by
  simp [Obj.mapSeq]
theorem Inv.lst {pins : List (Addr × Obj)} {σ : St} {H : Hp} {s : Shared} {p : Addr} {xs : List V} (I : Inv X pins σ H s) (h : H p = some (.lst xs)) :
    ∃ (its : List Value) (n : Nat), Vals xs its ∧ s.heap.get? p = some { cls := .type "list", data := .seq its.toArray n } ∧ xs.length ≤ sizeLine := by
  obtain ⟨z, its, n, r, e⟩ := I.hok p _ h
  exact ⟨its, n, r, e, z⟩
theorem Inv.lstUpd {pins : List (Addr × Obj)} {σ : St} {H : Hp} {s : Shared} {p : Addr} {xs ys : List V} {its its' : List Value} {n n' : Nat} {f : Obj → Obj} (I : Inv X pins σ H s) (h : H p = some (.lst xs))
    (ho : s.heap.get? p = some { cls := .type "list", data := .seq its.toArray n }) (hf : f { cls := .type "list", data := .seq its.toArray n } = { cls := .type "list", data := .seq its'.toArray n' }) (r : Vals ys its') (hz : ys.length ≤ sizeLine) (t : Nat) :
    Inv X pins σ (upd H p (.lst ys)) { s with heap := s.heap.update p f, toks := t } := by
  have e : (s.heap.update p f).get? p = some { cls := .type "list", data := .seq its'.toArray n' } := by
    rw [Heap.get?_update_self f ho (by rw [hf] <;> rfl), hf]
  refine I.write (x := p) (e := p) (by rw [h]; trivial) (.inl rfl) (fun b u hb q => (Heap.get?_update_other _ _ (Ne.symm hb)).trans q) ⟨_, e⟩ ?_
  exact ⟨hz, its', n', r, e⟩
def rSetL : V → V → V → Hp → (Hp → Prop) → Prop := fun o i v H Q => ∃ p xs k j, o = .ref p ∧ i = .int k ∧ H p = some (.lst xs) ∧ ixN xs.length k = some j ∧ Q (upd H p (.lst (xs.set j v)))
theorem set_list : PSet X rSetL := by
  intro pins s σ H o i v ov iv u Q I ro ri rv h
  obtain ⟨p, xs, k, j, rfl, rfl, hp, hj, q⟩ := h
  cases ro
  obtain ⟨t, rfl⟩ := ri
  obtain ⟨its, n, r, ho, hz⟩ := I.lst hp
  obtain ⟨h1, h2, h3, h4⟩ := ixN_seq hj
  have hl := r.length
  have hn := line63
  have I' : Inv X pins σ (upd H p (.lst (xs.set j v))) { s with heap := s.heap.update p (Obj.mapSeq (·.setIfInBounds j u)) } :=
    I.lstUpd hp ho (mapSeq_set its n j u) (r.set rv j) (by rw [List.length_set]; exact hz) s.toks
  by_cases h0 : 0 ≤ k
  · have hk : k.toNat = j := by
      rw [seqIndex_of h0 h4] at h1
      exact Option.some.inj h1
    exact PySem.W.ki_setAt ho h0 (by omega) (by rw [List.size_toArray, ← hl]; exact h4) (by rw [hk]; exact ⟨_, I', q⟩)
  · have hk : (k + (its.toArray.size : Int)).toNat = j := by
      rw [seqIndex_neg (by omega) h3] at h1
      rw [List.size_toArray, ← hl]
      exact Option.some.inj h1
    exact PySem.W.ki_setBack ho (by omega) (by rw [List.size_toArray, ← hl]; exact h3) (by omega) (by rw [hk]; exact ⟨_, I', q⟩)
theorem slice_bounds (lo hi : Option Int) (n : Nat) : (sliceBounds lo hi none n).1 = ((HT.sIx n 0 lo : Nat) : Int) ∧ (sliceBounds lo hi none n).2.1 = ((HT.sIx n n hi : Nat) : Int) ∧ (sliceBounds lo hi none n).2.2 = 1 := by
  refine ⟨?_, ?_, rfl⟩
  · cases lo with
    | none => simp [sliceBounds, HT.sIx]
    | some i =>
      simp only [sliceBounds, HT.sIx, Option.getD_none, show (1 : Int) > 0 by decide, if_true]
      by_cases h : i < 0
      · simp only [h, if_true] <;> omega
      · simp only [h, if_false] <;> omega
  · cases hi with
    | none => simp [sliceBounds, HT.sIx]
    | some i =>
      simp only [sliceBounds, HT.sIx, Option.getD_none, show (1 : Int) > 0 by decide, if_true]
      by_cases h : i < 0
      · simp only [h, if_true] <;> omega
      · simp only [h, if_false] <;> omega
theorem slicePick_cut (its : List Value) (lo hi : Option Int) : slicePick its.toArray lo hi none = ((its.drop (HT.sIx its.length 0 lo)).take (HT.sIx its.length its.length hi - HT.sIx its.length 0 lo)).toArray := by
  obtain ⟨h1, h2, h3⟩ := slice_bounds lo hi its.toArray.size
  unfold slicePick
  rw [h1, h2, h3]
  simp only [sliceRange_one, pick_run, List.size_toArray] <;> rfl
def rSlL (K : PySem.W.Frag) : V → Option Int → Option Int → Hp → VK → Prop := fun x lo hi H Q => ∃ a xs, x = .ref a ∧ SqL K H a xs ∧ ∀ p, H p = none → Q (.ref p) (upd H p (.lst (cutV xs lo hi)))
theorem sl_list : SlR X (rSlL X.K) := by
  intro pins s σ H x v vl vu lo hi sl Q I rx hs pl pu h
  obtain ⟨a, xs, rfl, hx, q⟩ := h
  cases rx
  obtain ⟨its, r, ht, hz⟩ := I.list hx
  have hlen := r.length
  refine ⟨"list", _, slot_list_getitem.lookup, ht.isList.typeIs, ?_⟩
  refine wpAny_getItem_list_slice ht.isList hs pl pu .none (by simp) ?_ (by rw [List.size_toArray] <;> omega)
  rw [slicePick_cut, ← hlen]
  refine ⟨.ref s.heap.objs.size, _, I.laid (t' := s.toks) (o := .lst (cutV xs lo hi)) (fun b ob q => Heap.get?_push_of_some _ q) (Nat.le_refl _) ?_, rfl, q _ (I.hok.fresh (Nat.le_refl _))⟩
  exact ⟨Nat.le_trans (cutV_length xs lo hi) hz, _, 0, (r.drop (HT.sIx xs.length 0 lo)).take (HT.sIx xs.length xs.length hi - HT.sIx xs.length 0 lo), Heap.get?_push_size _ rfl⟩
theorem call_len_seq : CallR X (.builtin "len") (fun xs H Q => ∃ p ys, xs = [.ref p] ∧ (SqL X.K H p ys ∨ SqT X.K H p ys) ∧ Q (.int ys.length) H) := by
  intro pins s σ H xs us Q I r h
  obtain ⟨p, ys, rfl, hq, q⟩ := h
  obtain ⟨u, rfl, rx⟩ := vals1 r
  cases rx
  have hn := line63
  rcases hq with hq | hq
  · obtain ⟨its, r', pl, hz⟩ := I.list hq
    have hlen := r'.length
    exact Calls.call_len_list pl.isList (by simp only [List.size_toArray] <;> omega) ⟨.int ys.length, H, I.tok _, ⟨s.toks + 1, by rw [List.size_toArray, hlen]⟩, q⟩
  · obtain ⟨its, r', pl, hz⟩ := I.tuple hq
    have hlen := r'.length
    exact len_tuple pl (by simp only [List.size_toArray] <;> omega) ⟨.int ys.length, H, I.tok _, ⟨s.toks + 1, by rw [List.size_toArray, hlen]⟩, q⟩
theorem call_list_of : CallR X (.type "list") (fun xs H Q => ∃ p ys, xs = [.ref p] ∧ (SqL X.K H p ys ∨ SqT X.K H p ys) ∧ ∀ l, H l = none → Q (.ref l) (upd H l (.lst ys))) := by
  intro pins s σ H xs us Q I r h
  obtain ⟨p, ys, rfl, hq, q⟩ := h
  obtain ⟨u, rfl, rx⟩ := vals1 r
  cases rx
  have fin : ∀ (its : List Value), Vals ys its → ys.length ≤ sizeLine → ∀ (h' : Heap) (c' : Nat), (∀ b o', s.heap.get? b = some o' → h'.get? b = some o') →
      h'.get? s.heap.objs.size = some { cls := .type "list", dict := none, data := .seq its.toArray c', slots := #[] } → EP X pins σ Q (.ref s.heap.objs.size) { s with heap := h' } := fun its r' hz h' c' kp e =>
    ⟨.ref s.heap.objs.size, _, I.laid (t' := s.toks) kp (Nat.le_refl _) (show ObjOk X.prog X.w _ h' _ (.lst ys) from ⟨hz, its, c', r', e⟩), rfl, q _ (I.hok.fresh (Nat.le_refl _))⟩
  rcases hq with hq | hq
  · obtain ⟨its, r', pl, hz⟩ := I.list hq
    have hlen := r'.length
    obtain ⟨o, ho, hc, n, hd⟩ := pl.isList
    exact call_list_seq p (.inl rfl) ho hc hd (fun h' c' kp e => fin its r' hz h' c' kp e) (by simp only [List.size_toArray] <;> omega)
  · obtain ⟨its, r', pl, hz⟩ := I.tuple hq
    have hlen := r'.length
    obtain ⟨o, ho, hc, n, hd⟩ := pl
    exact call_list_seq p (.inr rfl) ho hc hd (fun h' c' kp e => fin its r' hz h' c' kp e) (by simp only [List.size_toArray] <;> omega)
theorem call_tuple_of : CallR X (.type "tuple") (fun xs H Q => ∃ p ys, xs = [.ref p] ∧ ((SqL X.K H p ys ∧ ∀ l, H l = none → Q (.ref l) (upd H l (.tup ys))) ∨ (SqT X.K H p ys ∧ Q (.ref p) H))) := by
  intro pins s σ H xs us Q I r h
  obtain ⟨p, ys, rfl, h⟩ := h
  obtain ⟨u, rfl, rx⟩ := vals1 r
  cases rx
  rcases h with ⟨hq, q⟩ | ⟨hq, q⟩
  · obtain ⟨its, r', pl, hz⟩ := I.list hq
    have hlen := r'.length
    refine call_tuple_list pl.isList (fun h' kp => ?_) (by simp only [List.size_toArray] <;> omega)
    have I1 : Inv X pins σ H { s with heap := h' } := I.kept (t' := s.toks) kp
    have I2 : Inv X pins σ (upd H h'.objs.size (.tup ys)) { s with heap := h'.push { cls := .type "tuple", data := .seq its.toArray } } :=
      I1.laid (t' := s.toks) (fun b o e => Heap.get?_push_of_some _ e) (Nat.le_refl _) (show ObjOk X.prog X.w _ _ _ (.tup ys) from ⟨hz, its, r', IsTup.new _ _⟩)
    exact ⟨.ref h'.objs.size, _, I2, rfl, q _ (I1.hok.fresh (Nat.le_refl _))⟩
  · obtain ⟨its, r', pl, hz⟩ := I.tuple hq
    exact call_tuple_same pl ⟨.ref p, H, I, rfl, q⟩
def tyV (K : PySem.W.Frag) (T : String) (x : V) (H : Hp) : Prop := match x with
  | .str _ => T = "str"
  | .int _ => T = "int"
  | .ref p => (T = "list" ∧ ∃ xs, SqL K H p xs) ∨ (T = "tuple" ∧ ∃ o, K.lookup p = some o ∧ o.cls = .type "tuple" ∧ o.dict = none) ∨
      (T = "dict" ∧ ((∃ kvs, H p = some (.dK kvs)) ∨ ∃ kvs, H p = some (.dT kvs))) ∨ (T = "set" ∧ ∃ S n, H p = some (.set S n))
  | _ => False
theorem tyV_is {pins : List (Addr × Obj)} {σ : St} {H : Hp} {s : Shared} {T : String} {x : V} {v : Value} (I : Inv X pins σ H s) (r : RelV x v) (ty : tyV X.K T x H) :
    s.TypeIs v T ∧ ∀ a, v = .ref a → ∃ ob, s.heap.get? a = some ob ∧ ob.dict = none := by
  cases x with
  | str z =>
    obtain ⟨t, rfl⟩ := r
    cases (show T = "str" from ty)
    exact ⟨typeIs_str s z t, fun _ e => nomatch e⟩
  | int i =>
    obtain ⟨t, rfl⟩ := r
    cases (show T = "int" from ty)
    exact ⟨typeIs_int s i t, fun _ e => nomatch e⟩
  | ref p =>
    cases r
    rcases ty with ⟨rfl, xs, hq⟩ | ⟨rfl, o, hk, hc, hd⟩ | ⟨rfl, hk⟩ | ⟨rfl, S, n, hk⟩
    · obtain ⟨its, _, pl, _⟩ := I.list hq
      refine ⟨pl.isList.typeIs, fun a e => ?_⟩
      cases e
      obtain ⟨o, n, e, c, hd, _⟩ := pl
      exact ⟨o, e, hd⟩
    · refine ⟨⟨o, I.kIn p o hk, hc⟩, fun a e => ?_⟩
      cases e
      exact ⟨o, I.kIn _ o hk, hd⟩
    · have z : ∃ o, s.heap.get? p = some o ∧ o.ExactDict := by
        rcases hk with ⟨kvs, hk⟩ | ⟨kvs, hk⟩
        · obtain ⟨_, _, _, _, o, _, _, e, ex, _⟩ := I.hok p _ hk
          exact ⟨o, e, ex⟩
        · obtain ⟨_, _, _, _, o, _, _, e, ex, _⟩ := I.hok p _ hk
          exact ⟨o, e, ex⟩
      obtain ⟨o, e, ex⟩ := z
      refine ⟨⟨o, e, ex.1⟩, fun a e2 => ?_⟩
      cases e2
      exact ⟨o, e, ex.2.1⟩
    · obtain ⟨o, _, _, _, e, ex, _⟩ := I.hok p _ hk
      refine ⟨⟨o, e, ex.1⟩, fun a e2 => ?_⟩
      cases e2
      exact ⟨o, e, ex.2.1⟩
  | _ => exact False.elim ty
def tBM (K : PySem.W.Frag) (T : String) (r : V → List V → Hp → VK → Prop) (to : TE) (t : TA) : TE := fun σ H Q => to σ H fun x H1 => tyV K T x H1 ∧ t σ H1 fun xs H2 => r x xs H2 Q
variable {o e : Expr} {es : List Expr} {to : TE} {t : TA} {name : Str} {apos cpos : Pos} {T id : String} {r : V → List V → Hp → VK → Prop}
theorem pe_bm (pa : PlainAttrs T) (slot : Slot T name id) (hty : typeOf (.builtin id) = pure (.type "method_descriptor")) (hm : MtR X id r) (ho : PE X o to) (ha : PA X (e :: es) t)
    (hbase : attributeBase o name X.env (eval o X.env) = eval o X.env := by rfl)
    (hfew : ((backTo cpos (starEach (e :: es) X.env)).all (fun x => !x.1) && (backToKw cpos (keywordEach [] X.env)).all (fun x => x.1.isSome)
      && decide ((e :: es).length + ([] : List Keyword).length + (if ([] : List Keyword).isEmpty then 0 else 1) < 30)) = true := by rfl)
    (hline : (apos.endLine == cpos.line) = true := by rfl) (hs : starEach (e :: es) X.env = (false, eval e X.env) :: starEach es X.env := by rfl) (hplain : (backTo cpos (starEach es X.env)).any (·.1) = false := by rfl) :
    PE X (.Call (.Attribute o name apos) (e :: es) [] cpos) (tBM X.K T r to t) := by
  intro pins s σ H Q I h
  refine wpAny_Call_method_late hbase hfew hline rfl (thn (ho pins s σ H _ I h) fun v s1 ⟨x, H1, I1, r1, ty, q1⟩ => ?_)
  obtain ⟨h1, h2⟩ := tyV_is I1 r1 ty
  refine ⟨T, id, pa, slot, hty, h1, h2, ?_⟩
  have hA := ha cpos pins s1 σ H1 _ I1 q1
  rw [hs] at hA ⊢
  refine Calls.callWith_builtin (by show (false || (backTo cpos (starEach es X.env)).any (·.1)) = false; rw [hplain] <;> rfl) (Calls.evalArgs_plain ?_)
  exact thn hA fun us s2 ⟨vs, H2, I2, r2, q2⟩ => hm pins s2 σ H2 x vs v us Q I2 r1 r2 q2
/- xs.append(e), list.index on a module's tuple .. are MtR facts of 06m -/
end
end L2
namespace L2
open PySem PySem.Spec PyProof.Rows
def MtM (X : Cx) (id : String) (r : V → List V → Hp → VK → Prop) : Prop :=
  ∀ (pins : List (Addr × Obj)) (s : Shared) (σ : St) (H : Hp) (x : V) (xs : List V) (v : Value) (us : List Value) (Q : VK), Inv X pins σ H s → RelV x v → Vals xs us → r x xs H Q →
    wpAny (model X.prog X.w) X.A (call (.builtin id) (v :: us)) (EP X pins σ Q) X.xe s
theorem Vals.one : ∀ {x : V} {us : List Value}, Vals [x] us → ∃ u, us = [u] ∧ RelV x u
  | _, _, .cons r .nil => ⟨_, rfl, r⟩
theorem Vals.eraseIdx : ∀ {xs : List V} {us : List Value} (i : Nat), Vals xs us → Vals (xs.eraseIdx i) (us.eraseIdx i)
  | _, _, _, .nil => .nil
  | _, _, 0, .cons _ t => t
  | _, _, i + 1, .cons r t => .cons r (Vals.eraseIdx i t)
theorem len_erase {α : Type} : ∀ (l : List α) (i : Nat), (l.eraseIdx i).length ≤ l.length
  | [], _ => Nat.le_refl _
  | _ :: _, 0 => Nat.le_succ _
  | _ :: r, i + 1 => Nat.succ_le_succ (len_erase r i)
section
variable {X : Cx} {pins : List (Addr × Obj)} {σ : St} {H : Hp} {s : Shared} {l b : Addr} {xs ys zs : List V}
theorem Inv.lset {its its' : List Value} {n : Nat} {f : Array Value → Array Value} {t' : Nat} (I : Inv X pins σ H s) (hH : H l = some (.lst xs))
    (e : s.heap.get? l = some { cls := .type "list", data := .seq its.toArray n }) (hf : f its.toArray = its'.toArray) (hv : Vals ys its') (hz : ys.length ≤ sizeLine) :
    Inv X pins σ (upd H l (.lst ys)) { s with heap := s.heap.update l (Obj.mapSeq f), toks := t' } := by
  have q := PySem.IsL.update e f
  rw [hf] at q
  refine I.write (x := l) (e := l) (by rw [hH]; exact trivial) (.inl rfl) (fun b' u hb hu => (Heap.get?_update_other s.heap (Obj.mapSeq f) (Ne.symm hb)).trans hu) ⟨_, q⟩ ?_
  exact ⟨hz, its', _, hv, q⟩
theorem Inv.lnew {its : List Value} {t' : Nat} (I : Inv X pins σ H s) (hv : Vals ys its) (hz : ys.length ≤ sizeLine) :
    Inv X pins σ (upd H s.heap.objs.size (.lst ys)) { s with heap := s.heap.push { cls := .type "list", data := .seq its.toArray }, toks := t' } :=
  I.laid (fun _ _ q => Heap.get?_push_of_some _ q) (Nat.le_refl _) ⟨hz, its, 0, hv, Heap.get?_push_size _ rfl⟩
theorem Inv.fresh (I : Inv X pins σ H s) : H s.heap.objs.size = none := I.hok.fresh (Nat.le_refl _)
theorem Inv.lstM (I : Inv X pins σ H s) (hH : H l = some (.lst xs)) : xs.length ≤ sizeLine ∧ ∃ (its : List Value) (n : Nat), Vals xs its ∧ xs.length = its.length ∧ s.heap.get? l = some { cls := .type "list", data := .seq its.toArray n } := by
  obtain ⟨z, its, n, r, e⟩ := I.hok l _ hH
  exact ⟨z, its, n, r, r.length, e⟩
end
section
variable {X : Cx}
def rAppend : V → List V → Hp → VK → Prop := fun x vs H Q => ∃ l xs y, x = .ref l ∧ vs = [y] ∧ H l = some (.lst xs) ∧ xs.length < sizeLine ∧ Q .non (upd H l (.lst (xs ++ [y])))
theorem mt_append : MtM X "list.append" rAppend := by
  intro pins s σ H x vs v us Q I rx rv h
  obtain ⟨l, xs, y, rfl, rfl, hH, hz, q⟩ := h
  cases rx
  obtain ⟨u, rfl, ru⟩ := rv.one
  obtain ⟨z, its, n, r, hl, e⟩ := I.lstM hH
  refine call_meets F.slot_list_append ⟨_, e, rfl⟩ F.entry_list_append (F.args_list_append_2 _ _) (PySem.list_append l its.toArray n u (by rw [List.size_toArray]; omega)) ⟨e, ?_⟩
  refine ⟨.non, _, I.lset (its' := its ++ [u]) hH e (by simp) (r.append (.cons ru .nil)) ?_, rfl, q⟩
  rw [List.length_append, List.length_singleton]
  omega
def rPopAt : V → List V → Hp → VK → Prop := fun x vs H Q => ∃ l xs i k y, x = .ref l ∧ vs = [.int i] ∧ H l = some (.lst xs) ∧ -(2 ^ 63) ≤ i ∧ i < 2 ^ 63 ∧ seqIndex? i xs.length = some k ∧ xs[k]? = some y ∧ Q y (upd H l (.lst (xs.eraseIdx k)))
theorem mt_popAt : MtM X "list.pop" rPopAt := by
  intro pins s σ H x vs v us Q I rx rv h
  obtain ⟨l, xs, i, k, y, rfl, rfl, hH, h1, h2, hk, hy, q⟩ := h
  cases rx
  obtain ⟨u, rfl, ru⟩ := rv.one
  obtain ⟨t, rfl⟩ := ru
  obtain ⟨z, its, n, r, hl, e⟩ := I.lstM hH
  obtain ⟨w, hw, rw'⟩ := r.get hy
  refine call_meets F.slot_list_pop ⟨_, e, rfl⟩ F.entry_list_pop (F.args_list_pop_2 _ _)
    (MeetsSeq.list_pop_at l its.toArray n i t k w (fitsIndex_both h1 h2) (by rw [List.size_toArray, ← hl]; exact hk) (by rw [← Array.getElem?_toList]; exact hw) (by rw [List.size_toArray]; omega)) ⟨e, ?_⟩
  refine ⟨y, _, I.lset (its' := its.eraseIdx k) hH e ?_ (r.eraseIdx k) ?_, rw', q⟩
  · show its.toArray.eraseIdxIfInBounds k = (its.eraseIdx k).toArray
    rw [List.eraseIdxIfInBounds_toArray]
  · have := len_erase xs k
    omega
end
section
variable {prog : Program} {w : World} {A : Around} {E : Value → Shared → Prop} {s : Shared}
set_option maxRecDepth 100000 in
end
section
variable {X : Cx}
end
end L2
namespace Att
open PySem PySem.W PySem.Calls PyProof.Rows
theorem ints_of_wellAll {P : Params} {h : Heap} : ∀ (ns : List Int) (vs : List Value), WellAll P h vs (ns.map WData.int) → IntsAre vs ns := by
  intro ns
  induction ns with
  | nil =>
    intro vs w
    rw [List.map_nil] at w
    cases w
    exact .nil
  | cons n ns ih =>
    intro vs w
    rw [List.map_cons] at w
    cases w with
    | cons a b =>
      cases a
      exact .cons _ _ (ih _ b)
theorem script_of {l : OpenLaw} {n : Nat} (hn : l.most = some n) {P : Params} {h : Heap} {args : List WData} {vals : List Value}
    (hpre : l.row.toRowW.claim.pre args = true) (hwl : WellAll P h vals args) :
    ∃ a vs ns, vals = [Value.ref a] ∧ args = [WData.list (ns.map WData.int)] ∧ h.get? a = some { cls := .type "list", data := .seq vs.toArray } ∧ IntsAre vs ns ∧ ns.length ≤ n := by
  have hsh : WShape.hasAll [] args [.list .int] = true := (pre_splitW hpre).1
  have hc : l.pre.holds [] { args := args } = true := (pre_splitW hpre).2
  obtain ⟨d, r, rfl, h1, h2⟩ := hasAllW_cons hsh
  obtain rfl := hasAllW_nil h2
  obtain ⟨xs, rfl, h3⟩ := hasW_list h1
  obtain ⟨ns, rfl⟩ := items_int h3
  have hlen : ns.length ≤ n := by
    unfold OpenLaw.pre at hc
    have h4 : (WTm.not (.lt (.lit (.int (n : Int))) (.len (.arg 0)))).holds [] { args := [.list (ns.map .int)] } = true := by
      have h4 := (holds_andW hc).1
      rw [hn] at h4
      exact h4
    have h5 := condW_of h4 (w_not (w_lt w_lit (w_len_list (w_arg rfl))))
    rw [List.length_map] at h5
    refine Nat.le_of_not_lt fun q => ?_
    have q' : (n : Int) < ((ns.length : Nat) : Int) := by omega
    first
      | (rw [decide_eq_true q'] at h5; exact absurd h5 (by decide))
      | (simp at h5; omega)
  cases hwl with
  | cons w1 w2 =>
    cases w2
    cases w1 with
    | list ho hall => exact ⟨_, _, ns, rfl, rfl, ho, ints_of_wellAll ns _ hall, hlen⟩
theorem post_true (l : OpenLaw) (args : List WData) : l.row.toRowW.claim.post args (.bool true) args = true :=
  postW_of (r := l.row.toRowW) (X := (true == true))
    (show WShape.has [] (.bool true) .bool = true by first | rfl | decide | simp [WShape.has, WShape.arms, WShape.armsAll])
    (show (WTm.eq .res (.lit (.bool true))).value [] { args := args, res := some (.bool true), after := args } = some (.bool (true == true)) from w_eq_bool (w_res rfl) w_lit) rfl
theorem attach_call {l : OpenLaw} {n : Nat} {q : Program} {loose : List Str} {XP : (Str → Option Value) → Heap → Prop} {YP : World → Heap → Prop} {d : DefRec}
    (hn : l.most = some n) (hdf : d.params.defaults = [])
    (call : ∀ (w : World) (s₀ s₁ : Shared) (mg mb : Str → Option Value) (fa : Addr) (o : Obj) (pm cd doc : Value) (a : Addr) (vs : List Value) (ns : List Int),
      Ground q loose [] XP w s₀ mg mb s₁.heap → YP w s₁.heap →
      s₁.heap.get? fa = some o → o.data = .func (docDef d.name d.params d.body d.scope pm cd doc) → s₁.heap.CodeRec cd d.name → mg d.name = some (.ref fa) →
      s₁.heap.get? a = some { cls := .type "list", data := .seq vs.toArray } → IntsAre vs ns → ns.length ≤ n → s₁.gens = #[] →
      codeAny (model l.prog w) callerA (.call (.ref fa) ⟨[.ref a], []⟩) (fun r s' => r = .ok (.ret (.bool true)) ∧ OldK s₁.heap s'.heap ∧ s'.os = s₁.os ∧ AllBare s'.gens) s₁) :
    WalkO q loose XP YP l.row.toRowW d [] (fun f vs => PySem.call f vs) := by
  intro w s₀ s₁ mg mb G Y fa o pm cd doc dV kV ho hd hcd hD hmg hg args vals as hpre hlay hrd hwl hlo
  obtain rfl : dV = .none := Dflts.none hD hdf
  obtain rfl : kV = .none := Dflts.noKw hD
  obtain ⟨a, vs, ns, rfl, rfl, hobj, hints, hlen⟩ := script_of hn hpre hwl
  refine enter_call (codeAny_mono (call w s₀ s₁ mg mb fa o pm cd doc a vs ns G Y ho (fd_plain hd) hcd hmg hobj hints hlen hg) fun r s' hq => ?_)
  obtain ⟨rfl, h2, h3, h4⟩ := hq
  exact ⟨.inl ⟨.bool true, .bool true, [], rfl, fun _ => rfl, .bool true, post_true l _, fun _ => ⟨List.Pairwise.nil, fun _ hm => (nomatch hm)⟩⟩, h2, h3, h4⟩
section
variable {prog : Program} {w : World} {A : Around} {E : Value → Shared → Prop} {s : Shared} {K : Frag}
def ledger (h : Heap) (L d : Addr) : List (Addr × Obj) := (List.range h.objs.size).filterMap fun a => if a = L ∨ a = d then none else (h.get? a).map fun o => (a, o)
end
end Att
namespace L2
open PySem PySem.Spec PyProof.Rows
theorem vals_ints : ∀ {vs : List Value} {ns : List Int}, IntsAre vs ns → Vals (ns.map V.int) vs
  | _, _, .nil => .nil
  | _, _, .cons n t h => .cons ⟨t, rfl⟩ (vals_ints h)
def Only (H : Hp) : Prop := ∀ b, H b = none ∨ ∃ o xs, H b = some (.frz o (.lst xs))
theorem law_call {P : Program} {w : World} {K : PySem.W.Frag} {mg mb : Str → Option Value} {CX : CXT} {k : Nat} {fa a : Addr} {fd : FuncData} {x : Str} {sp : Sp} {s₁ : Shared} {vs : List Value} {ns : List Int}
    (KX : K.In s₁.heap) (hns : s₁.heap.Ns mainGlobals mg) (hb : s₁.heap.Ns builtinsNs mb) (hbb : ∀ x : Str, x ≠ "__name__" → mb x = bootBuiltins x) (hlim : s₁.heap.NoLimit) (hg : s₁.gens = #[])
    (ha : s₁.heap.get? a = some { cls := .type "list", data := .seq vs.toArray }) (hi : IntsAre vs ns) (hl : ns.length ≤ sizeLine) (hr : Room k callerA)
    (F : ∀ base : Heap, K.In base → base.Ns mainGlobals mg → FnOk P w K mg base CX k fa fd [x] sp) (hbind : ∀ (s : Shared) (u : Value), BindsTo s fd ⟨[u], []⟩ [(x, u)])
    (hsp : ∀ H : Hp, Only H → SqL K H a (ns.map V.int) → sp [.ref a] H (fun v _ => v = .bl true) fun _ _ _ => False)
    (hCX : ∀ H e s', CX [] H s₁ (fun _ _ _ => False) e s' → False) :
    codeAny (model P w) callerA (.call (.ref fa) ⟨[.ref a], []⟩) (fun r s' => r = .ok (.ret (.bool true)) ∧ OldK s₁.heap s'.heap ∧ s'.os = s₁.os ∧ AllBare s'.gens) s₁ := by
  have rv := vals_ints hi
  have lenV := hi.length
  have core : ∀ H : Hp, Only H → SqL K H a (ns.map V.int) → HOk P w H s₁.heap → (∀ b, H b ≠ none → b = a) → (H a ≠ none → K.lookup a = none) →
      codeAny (model P w) callerA (.call (.ref fa) ⟨[.ref a], []⟩) (fun r s' => r = .ok (.ret (.bool true)) ∧ OldK s₁.heap s'.heap ∧ s'.os = s₁.os ∧ AllBare s'.gens) s₁ := by
    intro H hO hS hok hA hK
    have base_of : ∀ {b : Addr} {o : Obj}, s₁.heap.get? b = some o → H b = none → (hidT s₁.heap H).get? b = some o := fun e n => hidT_get e n
    have noA : ∀ {b : Addr} {o : Obj} {es : Array DictEntry} {ep : Nat}, s₁.heap.get? b = some o → o.data = .dict es ep → H b = none := fun {b o es ep} e d => by
      cases q : H b with
      | none => rfl
      | some u =>
        have e' : b = a := hA b (by rw [q]; simp)
        subst e'
        rw [ha] at e; cases e
        have d' : Data.seq vs.toArray _ = Data.dict es ep := d
        cases d'
    have nsK : ∀ {b : Addr} {m : Str → Option Value}, s₁.heap.Ns b m → (hidT s₁.heap H).Ns b m := fun {b m} ⟨o, es, ep, e, d, r⟩ => ⟨o, es, ep, base_of e (noA e d), d, r⟩
    have hKb : K.In (hidT s₁.heap H) := fun b o e => base_of (KX b o e) (by
      cases q : H b with
      | none => rfl
      | some u =>
        have e' : b = a := hA b (by rw [q]; simp)
        subst e'
        rw [hK (by rw [q]; simp)] at e; cases e)
    have hM : Mod K mg (hidT s₁.heap H) := ⟨hKb, nsK hns, ⟨mb, nsK hb, hbb⟩, let ⟨mc, h1, h2⟩ := hlim; ⟨mc, nsK h1, h2⟩⟩
    have e0 : Env0 P w K mg (hidT s₁.heap H) callerA [] s₁ H := ⟨rfl, hM, fun b o e => of_hidT e, Nat.le_of_eq (hidT_size _ _), trivial, fun b hb => absurd (show b ∈ ([] : List Addr) from hb) (by simp), hok, .of_eq hg⟩
    refine codeAny_mono ((F _ hKb (nsK hns)).run callerA [] s₁ H ⟨[.ref a], []⟩ [.ref a] [.ref a] _ _ hr e0 (hbind s₁ (.ref a)) (.cons rfl .nil) (hsp H hO hS)) fun r s' h => ?_
    cases r with
    | error e => exact (hCX H e s' h).elim
    | ok fl =>
      cases fl with
      | next => exact False.elim h
      | brk => exact False.elim h
      | cont => exact False.elim h
      | ret u =>
        obtain ⟨v, H', os, bare, un, hok', r', q⟩ := h
        have q' : v = .bl true := q
        subst q'
        obtain rfl : u = Value.bool true := r'
        refine ⟨rfl, OldK.of_keep fun b o e => ?_, os, bare⟩
        cases q : H b with
        | none => exact un.keep b o e q (by intro z; exact absurd (show b ∈ ([] : List Addr) from z) (by simp)) (by simp)
        | some u =>
          rcases hO b with z | ⟨ob, xs, z⟩
          · rw [q] at z; cases z
          · have z2 := un.frzs b ob _ z
            obtain ⟨e1, _⟩ := hok b _ z
            obtain ⟨e2, _⟩ := hok' b _ z2
            rw [e] at e1; cases e1
            exact e2
  cases hk : K.lookup a with
  | some o =>
    have e := KX a o hk
    rw [ha] at e
    cases e
    refine core (fun _ => none) (fun _ => .inl rfl) (.inr ⟨_, vs.toArray, _, hk, rfl, rfl, rfl, by rw [List.size_toArray, lenV]; exact hl, by simpa using rv⟩) (fun b u z => by have z' : (none : Option HO) = some u := z; cases z') (fun b z => absurd rfl z) fun z => absurd rfl z
  | none =>
    refine core (fun b => if b = a then some (.frz { cls := .type "list", data := .seq vs.toArray } (.lst (ns.map V.int))) else none) (fun b => ?_) (.inl (.inr ⟨{ cls := .type "list", data := .seq vs.toArray }, if_pos rfl⟩)) (fun b u z => ?_) (fun b z => ?_) fun _ => hk
    · by_cases hb : b = a
      · exact .inr ⟨_, _, if_pos hb⟩
      · exact .inl (if_neg hb)
    · by_cases hb : b = a
      · have z' := (if_pos hb).symm.trans z
        cases z'
        subst hb
        exact ⟨ha, by rw [List.length_map]; exact hl, vs, _, rv, ha⟩
      · have z' := (if_neg hb).symm.trans z
        cases z'
    · by_cases hb : b = a
      · exact hb
      · exact absurd (if_neg hb) z
end L2
namespace L2
open PySem PySem.Spec PyProof.Rows
abbrev KOf {K : PySem.W.Frag} {h : Heap} (_ : K.In h) : PySem.W.Frag := K
theorem walk_of {l : PySem.W.OpenLaw} {n k : Nat} {q : Program} {loose : List Str} {XP : (Str → Option Value) → Heap → Prop} {YP : World → Heap → Prop} {d : DefRec} {K : Params → PySem.W.Frag} {CX : World → CXT} {sp : World → Sp} {x : Str}
    (hn : l.most = some n) (hn2 : n ≤ sizeLine) (hdf : d.params.defaults = []) (hr : Room k callerA)
    (hY : ∀ (w : World) (h : Heap), YP w h → (K w.params).In h)
    (F : ∀ (w : World) (mg : Str → Option Value) (fa : Addr) (h : Heap), (K w.params).In h → h.Ns mainGlobals mg → mg d.name = some (.ref fa) →
      ∃ fd : FuncData, (∀ (s : Shared) (u : Value), BindsTo s fd ⟨[u], []⟩ [(x, u)]) ∧
        ∀ base : Heap, (K w.params).In base → base.Ns mainGlobals mg → FnOk l.prog w (K w.params) mg base (CX w) k fa fd [x] (sp w))
    (hsp : ∀ (w : World) (H : Hp) (a : Addr) (ns : List Int), ns.length ≤ n → Only H → SqL (K w.params) H a (ns.map V.int) → sp w [.ref a] H (fun v _ => v = .bl true) fun _ _ _ => False)
    (hCX : ∀ (w : World) (H : Hp) (s : Shared) (e : Value) (s' : Shared), CX w [] H s (fun _ _ _ => False) e s' → False) :
    PySem.W.WalkO q loose XP YP l.row.toRowW d [] (fun f vs => PySem.call f vs) := by
  refine Att.attach_call hn hdf fun w s₀ s₁ mg mb fa o pm cd doc a vs ns G Y ho hd hcd hmg hobj hints hlen hg => ?_
  have KX := hY w _ Y
  obtain ⟨fd, hb, hF⟩ := F w mg fa _ KX G.T.g hmg
  exact law_call KX G.T.g G.T.b G.T.builtins G.T.nolimit hg hobj hints (Nat.le_trans hlen hn2) hr hF hb (fun H hO hS => hsp w H a ns hlen hO hS) fun H e s' => hCX w H s₁ e s'
theorem walk_ofK {l : PySem.W.OpenLaw} {n k : Nat} {q : Program} {loose : List Str} {XP : (Str → Option Value) → Heap → Prop} {YP : World → Heap → Prop} {d : DefRec} {K : Params → PySem.W.Frag} {CX : CXT} {sp : PySem.W.Frag → Sp} {x : Str}
    (hn : l.most = some n) (hn2 : n ≤ sizeLine) (hdf : d.params.defaults = []) (hr : Room k callerA)
    (hY : ∀ (w : World) (h : Heap), YP w h → (K w.params).In h)
    (F : ∀ (w : World) (mg : Str → Option Value) (fa : Addr) (h : Heap), (K w.params).In h → h.Ns mainGlobals mg → mg d.name = some (.ref fa) →
      ∃ fd : FuncData, (∀ (s : Shared) (u : Value), BindsTo s fd ⟨[u], []⟩ [(x, u)]) ∧
        ∀ base : Heap, (K w.params).In base → base.Ns mainGlobals mg → FnOk l.prog w (K w.params) mg base CX k fa fd [x] (sp (K w.params)))
    (hsp : ∀ (K : PySem.W.Frag) (H : Hp) (a : Addr) (ns : List Int), ns.length ≤ n → Only H → SqL K H a (ns.map V.int) → sp K [.ref a] H (fun v _ => v = .bl true) fun _ _ _ => False)
    (hCX : ∀ (H : Hp) (s : Shared) (e : Value) (s' : Shared), CX [] H s (fun _ _ _ => False) e s' → False) :
    PySem.W.WalkO q loose XP YP l.row.toRowW d [] (fun f vs => PySem.call f vs) :=
  walk_of (K := K) (CX := fun _ => CX) (sp := fun w => sp (K w.params)) hn hn2 hdf hr hY F (fun w H a ns h1 h2 h3 => hsp (K w.params) H a ns h1 h2 h3) fun _ H s e s' => hCX H s e s'
end L2
/- THE LAST THEOREM (shape; LID, My.* are yours):
   My.Adr: a structure of the addresses that your layer names (classes, functions); My.Txt K t: a structure (Prop) of the equations over K;
   My.txt_mk : {K} {implicit addresses ..} (e1 : nsIn K mainGlobals "law" = some (some (.ref f))) (e2 : K.lookup f = some ⟨oc, od, .func (fnOf "law" "law" params body scope dV kV doc pm an cdv ct), sl⟩) (e3 : codeIn K cdv "law" = true) .. : ∃ t, My.Txt K t
set_option maxRecDepth 100000 in
set_option maxHeartbeats 0 in
theorem PySem.Challenge.cw_LID_holds : PySem.Challenge.rw_LID.Holds := by
  w_on; o_law; k_head; (case hw => w_witness2)
  k_fill
  refine L2.walk_of (l := PySem.Challenge.rw_LID) (n := 63) (k := 40) (x := "script") (CX := fun w => ..) (sp := fun _ => My.sp_law) rfl (by decide) rfl ⟨rfl, by decide, by decide⟩ (fun w h Y => PySem.W.kIn_of Y) ?F ?S ?C
  case F =>
    intro w mg fa h KX G hmg
    have T : ∃ t, My.Txt (L2.KOf KX) t := by
      dsimp only [L2.KOf]                          -- K must stand as «<heap const> w.params» for k_is
      refine' My.txt_mk ?e1 ?e2 ?e3 ..
      (case e1 => PySem.W.k_is)                    -- in the order: a name -> its address -> its object -> its parts
      (case e2 => PySem.W.k_is)
      ..
    obtain ⟨t, T⟩ := T
    have e0 := hmg.symm.trans (PySem.W.mg_of KX G T.law)
    cases e0                                       -- fa is the law's own address
    exact ⟨_, fun s u => .of_eq rfl, fun base kb nb => My.law_fn T kb nb⟩     -- if «.of_eq rfl» comes too early: refine' ⟨_, ?b, fun base kb nb => My.law_fn T kb nb⟩; exact fun s u => .of_eq rfl
  case S => exact fun w H a ns hl hO hS => ..
  case C => exact ..
(the tactic k_is has no namespace: write k_is) -/
namespace L2
open PySem PySem.Spec PyProof.Rows
def defArgs (s : Stmt) : Arguments := match s with
  | .FunctionDef _ a _ _ _ _ _ _ _ _ => a
  | _ => { posonlyargs := [], args := [], vararg := none, kwonlyargs := [], kw_defaults := [], kwarg := none, defaults := [] }
def defBody (s : Stmt) : List Stmt := match s with
  | .FunctionDef _ _ b _ _ _ _ _ _ _ => b
  | _ => []
def defScope (s : Stmt) : Scope := match s with
  | .FunctionDef _ _ _ _ _ _ sc _ _ _ => sc
  | _ => { kind := .function, names := [], isGenerator := false, isCoroutine := false }
abbrev CX0 : CXT := fun _ _ _ _ _ _ => False
abbrev E0 : XK := fun _ _ _ => False
theorem pass0 {X : Cx} : Passes CX0 X E0 := fun _ _ _ _ _ _ _ h => h.elim
structure Fun (K : PySem.W.Frag) (x qual : Str) (st : Stmt) (f : Addr) (fd : FuncData) : Prop where
  ex : ∃ (oc : Value) (od : Option Addr) (kV doc pm : Value) (an : Option Addr) (cdv ct : Value) (osl : Array (Option Value)),
    fd = PySem.W.fnOf x qual (defArgs st) (defBody st) (defScope st) .none kV doc pm an cdv ct ∧ K.lookup f = some ⟨oc, od, .func fd, osl⟩ ∧ PySem.W.codeIn K cdv qual = true
  kp : PySem.W.keepIn K (.ref f) = true
section
variable {P : Program} {w : World} {K : PySem.W.Frag} {mg : Str → Option Value} {base : Heap}
theorem Fun.ok {x qual : Str} {st : Stmt} {f : Addr} {fd : FuncData} {N ps : List Str} {k : Nat} {sp : Sp} (F : Fun K x qual st f fd) (S : FnScope N ps (defScope st)) (len : ∀ vs H Q E, sp vs H Q E → vs.length = ps.length)
    (hbody : ∀ (cdv : Value) (A : Around) (outer : List Env) (s : Shared) (H : Hp) (vs : List V) (Q : VK) (E : XK), Room k (A.deeper (envOfC qual (defScope st) s.heap.objs.size f cdv)) → sp vs H Q E →
      ∃ t, PSs (cxOf CX0 P w K mg base N qual (defScope st) f cdv A outer s H E).nox (defBody st) t ∧ t { nx := fun _ H' => Q .non H', rt := Q } (start N vs) H) : FnOk P w K mg base CX0 (k + 1) f fd ps sp := by
  obtain ⟨oc, od, kV, doc, pm, an, cdv, ct, osl, rfl, lk, hcd⟩ := F.ex
  refine fn_of lk hcd S len fun A outer s H vs Q E hr hsp => ?_
  obtain ⟨t, h, q⟩ := hbody cdv A outer s H vs Q E hr hsp
  exact ⟨t, h.nox, q⟩
theorem Fun.binds {x qual : Str} {st : Stmt} {f : Addr} {fd : FuncData} {ps : List Str} (F : Fun K x qual st f fd)
    (h : ∀ (kV doc pm : Value) (an : Option Addr) (cdv ct : Value) (us : List Value), us.length = ps.length → bindArgs (PySem.W.fnOf x qual (defArgs st) (defBody st) (defScope st) .none kV doc pm an cdv ct) ⟨us, []⟩ = pure (ps.zip us)) : Binds K fd ps [] := by
  obtain ⟨oc, od, kV, doc, pm, an, cdv, ct, osl, rfl, lk, hcd⟩ := F.ex
  exact .all (h kV doc pm an cdv ct)
theorem fun_mk {x qual : Str} {st : Stmt} {f : Addr} {oc : Value} {od an : Option Addr} {osl : Array (Option Value)} {kV doc pm cdv ct : Value} (l : K.lookup f = some ⟨oc, od, .func (PySem.W.fnOf x qual (defArgs st) (defBody st) (defScope st) .none kV doc pm an cdv ct), osl⟩)
    (c : PySem.W.codeIn K cdv qual = true) (k : PySem.W.keepIn K (.ref f) = true) : Fun K x qual st f (PySem.W.fnOf x qual (defArgs st) (defBody st) (defScope st) .none kV doc pm an cdv ct) := ⟨⟨oc, od, kV, doc, pm, an, cdv, ct, osl, rfl, l, c⟩, k⟩
end
section
variable {X : Cx}
end
def Same (H H' : Hp) : Prop := ∀ b o, H b = some o → H' b = some o
theorem Same.refl (H : Hp) : Same H H := fun _ _ h => h
theorem Same.trans {H H1 H2 : Hp} (a : Same H H1) (b : Same H1 H2) : Same H H2 := fun c o h => b c o (a c o h)
theorem Same.free {H H' : Hp} (e : Same H H') {l : Addr} (h : H' l = Option.none) : H l = Option.none := by
  cases q : H l with
  | none => rfl
  | some o =>
    rw [e l o q] at h
    cases h
theorem Same.seq {K : PySem.W.Frag} {H H' : Hp} {a : Addr} {xs : List V} (e : Same H H') (h : SqL K H a xs) : SqL K H' a xs := by
  rcases h with (h | ⟨o, h⟩) | h
  · exact .inl (.inl (e _ _ h))
  · exact .inl (.inr ⟨o, e _ _ h⟩)
  · exact .inr h
end L2
set_option maxHeartbeats 4000000
namespace L2
open PySem PySem.Spec PyProof.Rows
def cxComp (X : Cx) (N' : List Str) (scope : Scope) (cl : List (Str × Addr)) (fp : List Addr) (pins : List (Addr × Obj)) (s : Shared) (H : Hp) : Cx where
  prog := X.prog
  w := X.w
  K := X.K
  mg := X.mg
  base := X.base
  A := X.A
  N := N'
  s₀ := s
  H₀ := H
  env := compEnvC scope cl s.heap.objs.size X.env
  outer := X.stack
  stack := X.stack
  ex := fp
  fn := fun _ => false
  calm := X.calm
  pn := X.pn ++ pins
  xe := fun _ _ => False
def clF (env : Env) : List (Str × NameKind) → List (Str × Addr) → List (Str × Addr)
  | [], acc => acc
  | (n, k) :: r, acc => if (k == NameKind.free) = true then clF env r ((n, (env.cells.lookup n).getD 0) :: acc) else clF env r acc
theorem mem_of_lookup {β : Type} : ∀ {l : List (Str × β)} {x : Str} {k : β}, l.lookup x = some k → (x, k) ∈ l
  | [], _, _, h => by simp at h
  | (n, j) :: r, x, k, h => by
    rw [List.lookup_cons] at h
    cases hx : x == n with
    | true =>
      rw [hx] at h
      have e : x = n := eq_of_beq hx
      subst e
      have e2 : j = k := by simpa using h
      subst e2
      exact List.mem_cons_self
    | false =>
      rw [hx] at h
      exact List.mem_cons_of_mem _ (mem_of_lookup (by simpa using h))
theorem clF_sub {env : Env} {x : Str} {c : Addr} : ∀ (l : List (Str × NameKind)) (acc : List (Str × Addr)), (∀ y ∈ l, y.2 = .free → ∃ c, env.cells.lookup y.1 = some c) →
    (clF env l acc).lookup x = some c → acc.lookup x = some c ∨ env.cells.lookup x = some c
  | [], acc, _, h => .inl h
  | (n, k) :: r, acc, hf, h => by
    have hr : ∀ y ∈ r, y.2 = .free → ∃ c, env.cells.lookup y.1 = some c := fun y hy => hf y (List.mem_cons_of_mem _ hy)
    unfold clF at h
    by_cases hk : (k == NameKind.free) = true
    · rw [if_pos hk] at h
      rcases clF_sub r _ hr h with h1 | h1
      · rw [List.lookup_cons] at h1
        cases hx : x == n with
        | true =>
          rw [hx] at h1
          have e : x = n := eq_of_beq hx
          subst e
          have hk' : k = .free := eq_of_beq hk
          obtain ⟨c', hc'⟩ := hf (x, k) List.mem_cons_self hk'
          have hc2 : env.cells.lookup x = some c' := hc'
          rw [hc2] at h1
          right
          rw [hc2]
          simpa using h1
        | false =>
          rw [hx] at h1
          exact .inl (by simpa using h1)
      · exact .inr h1
    · rw [if_neg hk] at h
      exact clF_sub r _ hr h
theorem clF_has {env : Env} {x : Str} : ∀ (l : List (Str × NameKind)) (acc : List (Str × Addr)), ((x, NameKind.free) ∈ l ∨ ∃ c, acc.lookup x = some c) → ∃ c, (clF env l acc).lookup x = some c
  | [], acc, h => by
    rcases h with h | h
    · cases h
    · exact h
  | (n, k) :: r, acc, h => by
    unfold clF
    by_cases hk : (k == NameKind.free) = true
    · rw [if_pos hk]
      refine clF_has r _ ?_
      rcases h with h | ⟨c, h⟩
      · rcases List.mem_cons.mp h with e | e
        · injection e with e1 e2
          right
          refine ⟨(env.cells.lookup n).getD 0, ?_⟩
          rw [List.lookup_cons, e1]
          simp
        · exact .inl e
      · right
        rw [List.lookup_cons]
        cases hx : x == n with
        | true => exact ⟨_, rfl⟩
        | false => exact ⟨c, h⟩
    · rw [if_neg hk]
      refine clF_has r _ ?_
      rcases h with h | h
      · rcases List.mem_cons.mp h with e | e
        · injection e with e1 e2
          rw [← e2] at hk
          exact absurd (by rfl) hk
        · exact .inl e
      · exact .inr h
structure ClOk (X : Cx) (scope : Scope) (cl : List (Str × Addr)) : Prop where
  clos : closureFor scope X.env = pure cl
  sub : ∀ x c, cl.lookup x = some c → X.env.cells.lookup x = some c
  has : ∀ x, ((relabel scope X.env).names.lookup x = some .cell ∨ (relabel scope X.env).names.lookup x = some .free) → ∃ c, cl.lookup x = some c
  kind : scope.kind = .function
  cell : ∀ y ∈ scope.names, y.2 ≠ .cell
  names : ∀ x ∈ scope.names, x.2 = .local → scope.names.lookup x.1 = some .local
theorem closureFor_clF {env : Env} {scope : Scope} (hf : ∀ y ∈ scope.names, y.2 = .free → ∃ c, env.cells.lookup y.1 = some c) : closureFor scope env = pure (clF env scope.names []) := by
  unfold closureFor
  have key : ∀ (l : List (Str × NameKind)) (acc : List (Str × Addr)), (∀ y ∈ l, y.2 = .free → ∃ c, env.cells.lookup y.1 = some c) →
      (forIn l acc (fun (x : Str × NameKind) (r : List (Str × Addr)) => (if (x.2 == NameKind.free) = true then do let a ← cellOf env x.1; pure (ForInStep.yield ((x.1, a) :: r)) else pure (ForInStep.yield r) : Sem (ForInStep (List (Str × Addr)))))) = pure (clF env l acc) := by
    intro l
    induction l with
    | nil => intro acc _; rfl
    | cons p r ih =>
      intro acc hf
      obtain ⟨n, k⟩ := p
      have hr : ∀ y ∈ r, y.2 = .free → ∃ c, env.cells.lookup y.1 = some c := fun y hy => hf y (List.mem_cons_of_mem _ hy)
      rw [List.forIn_cons]
      unfold clF
      by_cases hk : (k == NameKind.free) = true
      · obtain ⟨c, hc⟩ := hf (n, k) List.mem_cons_self (eq_of_beq hk)
        have hc' : env.cells.lookup n = some c := hc
        have hcell : cellOf env n = pure c := by unfold cellOf; rw [hc']
        simp only [hk, if_true, hcell, hc', Option.getD_some]
        show (forIn r ((n, c) :: acc) _ : Sem _) = _
        exact ih _ hr
      · simp only [hk, if_false]
        show (forIn r acc _ : Sem _) = _
        exact ih _ hr
  have := key scope.names [] hf
  simpa using this
theorem clok_mk {X : Cx} {scope : Scope} (ok : X.Ok) (kind : scope.kind = .function) (cell : ∀ y ∈ scope.names, y.2 ≠ .cell)
    (names : ∀ x ∈ scope.names, x.2 = .local → scope.names.lookup x.1 = some .local)
    (free : ∀ y ∈ scope.names, y.2 = .free → X.env.kindOf y.1 = some .cell ∨ X.env.kindOf y.1 = some .free) : ClOk X scope (clF X.env scope.names []) := by
  have hf : ∀ y ∈ scope.names, y.2 = .free → ∃ c, X.env.cells.lookup y.1 = some c := fun y hy e => ok.has y.1 (free y hy e)
  refine ⟨closureFor_clF hf, fun x c h => ?_, fun x h => ?_, kind, cell, names⟩
  · rcases clF_sub scope.names [] hf h with h1 | h1
    · simp at h1
    · exact h1
  · refine clF_has scope.names [] (.inl ?_)
    have hm : ∃ k, (x, k) ∈ (relabel scope X.env).names ∧ (k = .cell ∨ k = .free) := by
      rcases h with h | h
      · exact ⟨_, mem_of_lookup h, .inl rfl⟩
      · exact ⟨_, mem_of_lookup h, .inr rfl⟩
    obtain ⟨k, hm, hk⟩ := hm
    obtain ⟨⟨n, j⟩, hn, e⟩ := List.mem_map.mp hm
    have e' : (if (j == NameKind.free && X.env.scope.kind == .function && X.env.kindOf n == some .cell) = true then (n, NameKind.cell) else (n, j)) = (x, k) := e
    by_cases hc : (j == NameKind.free && X.env.scope.kind == .function && X.env.kindOf n == some .cell) = true
    · rw [if_pos hc] at e'
      injection e' with e1 e2
      have hj : j = .free := by
        rw [Bool.and_eq_true, Bool.and_eq_true] at hc
        exact eq_of_beq hc.1.1
      rw [← e1, ← hj]
      exact hn
    · rw [if_neg hc] at e'
      injection e' with e1 e2
      rcases hk with hk | hk
      · exact absurd (e2.trans hk) (cell (n, j) hn)
      · rw [← e1, ← hk, ← e2]
        exact hn
def FvOk (X : Cx) (scope : Scope) : List (Nat × Str) → Prop
  | [] => True
  | p :: r => (X.N[p.1]? = some p.2 ∧ (X.env.scope.names.lookup p.2 = some .cell ∨ X.env.scope.names.lookup p.2 = some .free) ∧
      ((relabel scope X.env).names.lookup p.2 = some .cell ∨ (relabel scope X.env).names.lookup p.2 = some .free)) ∧ FvOk X scope r
theorem FvOk.mem {X : Cx} {scope : Scope} : ∀ {fv : List (Nat × Str)}, FvOk X scope fv → ∀ p ∈ fv, X.N[p.1]? = some p.2 ∧ (X.env.scope.names.lookup p.2 = some .cell ∨ X.env.scope.names.lookup p.2 = some .free) ∧
      ((relabel scope X.env).names.lookup p.2 = some .cell ∨ (relabel scope X.env).names.lookup p.2 = some .free)
  | [], _, p, hp => by cases hp
  | q :: r, h, p, hp => by
    rcases List.mem_cons.mp hp with e | e
    · rw [e]; exact h.1
    · exact FvOk.mem h.2 p e
def compSt (n : Nat) (fv : List (Nat × Str)) (σ : St) : St := List.replicate n none ++ fv.map fun p => (σ[p.1]?).join
theorem compSt_len (n : Nat) (fv : List (Nat × Str)) (σ : St) : (compSt n fv σ).length = n + fv.length := by
  simp [compSt]
theorem compSt_get {n : Nat} {fv : List (Nat × Str)} {σ : St} {i : Nat} {v : V} (h : (compSt n fv σ)[i]? = some (some v)) : n ≤ i ∧ ∃ p, fv[i - n]? = some p ∧ σ[p.1]? = some (some v) := by
  unfold compSt at h
  by_cases hi : i < n
  · rw [List.getElem?_append_left (by simpa using hi), List.getElem?_replicate, if_pos hi] at h
    cases h
  · have hn : n ≤ i := by omega
    rw [List.getElem?_append_right (by simpa using hn), List.length_replicate, List.getElem?_map] at h
    refine ⟨hn, ?_⟩
    cases e : fv[i - n]? with
    | none => rw [e] at h; cases h
    | some p =>
      rw [e] at h
      refine ⟨p, rfl, ?_⟩
      have h' : (σ[p.1]?).join = some v := Option.some.inj h
      cases e2 : σ[p.1]? with
      | none => rw [e2] at h'; cases h'
      | some o =>
        rw [e2] at h'
        have h2 : o = some v := h'
        rw [h2]
section
variable {X : Cx} {pins : List (Addr × Obj)} {σ : St} {H : Hp} {s : Shared} {fp : List Addr} {scope : Scope} {cl : List (Str × Addr)} {own : List Str} {fv : List (Nat × Str)}
theorem comp_ok (I : Inv X pins σ H s) (ck : ClOk X scope cl) (hf : ∀ b ∈ fp, FpOk X pins H b) (hlt : ∀ b ∈ fp, b < s.heap.objs.size) :
    (cxComp X (own ++ fv.map (·.2)) scope cl fp pins s H).Ok where
  mod := I.ok.mod
  kind := ck.kind
  glob := I.ok.glob
  blt := I.ok.blt
  above := Nat.le_refl _
  inj := fun x y c hx hy => I.ok.inj x y c (ck.sub x c hx) (ck.sub y c hy)
  has := fun x h => ck.has x h
  cab := fun x c h _ => Bool.noConfusion h
  hd := I.ok.hd
  frames := I.ok.frames
  stk := .inl rfl
  exf := fun b hb => ⟨Nat.ne_of_lt (hlt b hb), fun x c h => (hf b hb).2.2.2.2.1 x c (ck.sub x c h)⟩
  bs := I.bs
  bsz := Nat.le_trans I.ok.bsz I.sz
  noex := fun b o e hb => by
    rcases (hf b hb).2.2.2.1 with h | h
    · exact I.ok.noex b o e h
    · exact absurd (Nat.lt_of_lt_of_le (Heap.lt_size e) I.ok.bsz) (Nat.not_lt.mpr h)
  exfs := fun b hb h => by
    rcases List.mem_cons.mp (I.stkSub b h) with e | e
    · exact (hf b hb).2.1 e
    · exact (hf b hb).2.2.1 e
  funs := I.stack
  frf := I.stkFree
theorem comp_start (I : Inv X pins σ H s) (ck : ClOk X scope cl) (fo : FvOk X scope fv) (hf : ∀ b ∈ fp, FpOk X pins H b) (hlt : ∀ b ∈ fp, b < s.heap.objs.size) {h' : Heap} {tk : Nat} {m : Str → Option Value}
    (hns : h'.Ns s.heap.objs.size m) (keep : ∀ b o, s.heap.get? b = some o → h'.get? b = some o) :
    Inv (cxComp X (own ++ fv.map (·.2)) scope cl fp pins s H) [] (compSt own.length fv σ) H { s with heap := h', toks := tk } where
  ok := comp_ok I ck hf hlt
  os := rfl
  bare := I.bare
  base := Un.kept keep
  loc := by
    refine ⟨m, hns, fun i x v hi hv _ => ?_⟩
    obtain ⟨hn, p, hp, hσ⟩ := compSt_get hv
    have hx : x = p.2 := by
      have hi' : (own ++ fv.map (·.2))[i]? = some x := hi
      rw [List.getElem?_append_right hn, List.getElem?_map, hp] at hi'
      exact (Option.some.inj hi').symm
    subst hx
    obtain ⟨hN, hk, hk'⟩ := fo.mem p (List.mem_of_getElem? hp)
    obtain ⟨m0, _, hl⟩ := I.loc
    obtain ⟨u, r, lk⟩ := hl p.1 p.2 v hN hσ (.inr hk)
    refine ⟨u, r, .inr ⟨hk', ?_⟩⟩
    rcases lk with ⟨lk, _⟩ | ⟨_, c, hc, ic⟩
    · have lk' : X.env.scope.names.lookup p.2 = some .local := lk
      rcases hk with hk | hk
      · rw [hk] at lk'; cases lk'
      · rw [hk] at lk'; cases lk'
    · obtain ⟨c', hc'⟩ := ck.has p.2 hk'
      have e := ck.sub _ _ hc'
      rw [hc] at e
      cases e
      obtain ⟨o, e1, e2⟩ := ic
      exact ⟨c, hc', o, keep _ _ e1, e2⟩
  cell := fun x c h => by
    obtain ⟨v, o, e1, e2⟩ := I.cell x c (ck.sub x c h)
    exact ⟨v, o, keep _ _ e1, e2⟩
  free := I.hok.fresh (Nat.le_refl _)
  freeC := fun x c h => I.freeC x c (ck.sub x c h)
  pin := fun p hp => by
    have hp' : p ∈ X.pn ++ pins := by
      have := List.mem_append.mp hp
      rcases this with h | h
      · exact h
      · cases h
    obtain ⟨e, n, nl, nf, nc⟩ := I.pin p hp'
    refine ⟨keep _ _ e, n, Nat.ne_of_lt (Heap.lt_size e), fun h => ?_, nc⟩
    rcases List.mem_cons.mp (I.stkSub _ h) with z | z
    · exact nl z
    · exact nf z
  hok := I.hok.kept keep
  len := by
    rw [compSt_len]
    show _ = (own ++ fv.map (·.2)).length
    simp
theorem comp_exit (I : Inv X pins σ H s) (hf : ∀ b ∈ fp, FpOk X pins H b) {N' : List Str} {σ' : St} {H' : Hp} {s' : Shared}
    (I' : Inv (cxComp X N' scope cl fp pins s H) [] σ' H' s') : Inv X pins σ H' s' :=
  I.call' (ch := fp) I'.os I'.base I'.hok I'.bare fun b hb => ⟨(hf b hb).2.2.2.1, (hf b hb).2.1, (hf b hb).2.2.2.2.1, (hf b hb).2.2.2.2.2⟩
theorem comp_ns (I : Inv X pins σ H s) {N' : List Str} {σ' : St} {H' : Hp} {s' : Shared}
    (I' : Inv (cxComp X N' scope cl fp pins s H) [] σ' H' s') : (∃ m, s'.heap.Ns s.heap.objs.size m) ∧ H' s.heap.objs.size = none := by
  obtain ⟨m, h, _⟩ := I'.loc
  exact ⟨⟨m, h⟩, I'.free⟩
theorem comp_forget (I : Inv X pins σ H s) {pins1 : List (Addr × Obj)} {σ1 : St} {H1 : Hp} {s1 : Shared} (I1 : Inv X pins1 σ1 H1 s1) (hp : ∀ p ∈ pins1, p ∈ pins) (hn : H1 s.heap.objs.size = none) {h' : Heap}
    (sb : Heap.SameBut s.heap.objs.size s1.heap h') : Inv X pins1 σ1 H1 { s1 with heap := h' } := by
  refine I1.turned (t' := s1.toks) (it := s.heap.objs.size) (fun b o hb e => sb.extBut b o hb e) hn (Ne.symm (Nat.ne_of_lt I.lt)) (.inr I.sz) (fun x c h => ?_) fun p hp' => ?_
  · obtain ⟨v, o, e1, _⟩ := I.cell x c h
    exact Nat.ne_of_lt (Heap.lt_size e1)
  · have hp2 : p ∈ X.pn ++ pins := by
      rcases List.mem_append.mp hp' with z | z
      · exact List.mem_append_left _ z
      · exact List.mem_append_right _ (hp p z)
    exact Nat.ne_of_lt (Heap.lt_size (I.pin p hp2).1)
end
section
variable {prog : Program} {w : World} {A : Around} {R : Result → Shared → Prop} {s : Shared}
theorem codeAny_compLoop_go {elt target iter : Expr} {ifs : List Expr} {scope : Scope} {pos : Pos} {it acc : Value} {env : Env} (I : Nat → Shared → Prop)
    (turn : ∀ n s, I n s → wpAny (model prog w) A (pyNext it) (fun r s₁ => match r with
      | none => R (.ok .next) s₁
      | some v => wpAny (model prog w) A (letOwnedTupleGo target it v) (fun _ s₀ => wpAny (model prog w) A (assign target env v) (fun _ s₂ =>
          wpAny (model prog w) A (forIn ifs true fun c r => if r = true then do let ok ← isTrue c env (eval c env); pure (ForInStep.yield ok) else pure (ForInStep.yield r)) (fun ok s₃ =>
            if ok = true then wpAny (model prog w) A (eval elt env) (fun x s₄ =>
              wpAny (model prog w) A (call (.builtin "list.append") [acc, x]) (fun _ s₅ => ∃ m, m < n ∧ I m s₅) (notedBy (model prog w) A env fun e s' => R (.error e) s') s₄) (notedBy (model prog w) A env fun e s' => R (.error e) s') s₃
            else ∃ m, m < n ∧ I m s₃) (notedBy (model prog w) A env fun e s' => R (.error e) s') s₂) (notedBy (model prog w) A env fun e s' => R (.error e) s') s₀) (notedBy (model prog w) A env fun e s' => R (.error e) s') s₁) (notedBy (model prog w) A env fun e s' => R (.error e) s') s)
    (n : Nat) (h : I n s) :
    codeAny (model prog w) A (.compLoop (.ListComp elt [⟨target, iter, ifs, 0⟩] scope pos) 0 it acc env) R s := by
  refine codeAny_loop rfl I (fun n s hI => ?_) n h
  show wpAny _ A ((compTurn (.ListComp elt [⟨target, iter, ifs, 0⟩] scope pos) 0 it acc env).onRaise (fun x => do noteFrame x env; theTreesLotGoes x)) _ _ s
  refine wpAny_noted ?_
  rw [compTurn_list]
  refine wpAny_bind (wpAny_standAt (wpAny_bind (wpAny_mono (turn n s hI) (fun r s₁ h₁ => ?_) fun _ _ h' => h')))
  cases r with
  | none => exact wpAny_pure h₁
  | some v =>
    refine wpAny_bind (wpAny_mono h₁ (fun _ s₀ h₀ => ?_) fun _ _ h' => h')
    refine wpAny_bind (wpAny_mono h₀ (fun _ s₂ h₂ => wpAny_bind (wpAny_mono h₂ (fun ok s₃ h₃ => ?_) fun _ _ h' => h')) fun _ _ h' => h')
    cases ok with
    | false => exact wpAny_pure ⟨rfl, h₃⟩
    | true =>
      exact wpAny_bind (wpAny_bind (wpAny_mono h₃ (fun x s₄ h₄ => wpAny_bind (wpAny_mono h₄ (fun _ s₅ h₅ => wpAny_pure (wpAny_pure ⟨rfl, h₅⟩)) fun _ _ h' => h')) fun _ _ h' => h'))
end
def PTs (X : Cx) (ifs : List Expr) (t : TT) : Prop :=
  ∀ (pins : List (Addr × Obj)) (s : Shared) (σ : St) (H : Hp) (Q : Bool → Hp → Prop), Inv X pins σ H s → t σ H Q →
    wpAny (model X.prog X.w) X.A (forIn ifs true fun c r => if r = true then do let ok ← isTrue c X.env (eval c X.env); pure (ForInStep.yield ok) else pure (ForInStep.yield r)) (TP X pins σ Q) X.xe s
def tTrue : TT := fun _ H Q => Q true H
theorem pts_nil {X : Cx} : PTs X [] tTrue := fun pins s σ H Q I h => wpAny_tests_nil ⟨H, I, h⟩
theorem pts_one {X : Cx} {c : Expr} {t : TT} (h : PT X c t) : PTs X [c] t := fun pins s σ H Q I q => wpAny_tests_one (h pins s σ H Q I q)
def GKeep (n : Nat) (g : TG) : Prop := ∀ v σ H Q, g v σ H Q → g v σ H fun σ' H' => (σ'.length = σ.length ∧ ∀ i, n ≤ i → σ'[i]? = σ[i]?) ∧ Q σ' H'
theorem gk_name {n i : Nat} (h : i < n) : GKeep n (gName i) := fun v σ H Q q => ⟨⟨by simp, fun j hj => by rw [List.getElem?_set_ne (by omega)]⟩, q⟩
theorem gk_two {n i j : Nat} {K : PySem.W.Frag} (h : i < n) (h' : j < n) : GKeep n (gTup K 2 (gCons (gName i) (gCons (gName j) gNil))) := fun v σ H Q q => by
  obtain ⟨a, xs, e, sq, l, v1, r, e1, v2, r2, e2, e3, q⟩ := q
  refine ⟨a, xs, e, sq, l, v1, r, e1, v2, r2, e2, e3, ⟨by simp, fun k hk => ?_⟩, q⟩
  rw [List.getElem?_set_ne (by omega), List.getElem?_set_ne (by omega)]
def CompW (J : It) (g : TG) (tc : TT) (te : TE) (σ0 : St) (D : Addr) (Q : VK) (H : Hp) : Prop :=
  ∃ W : Nat → Nat → List V → Hp → Prop, (∃ m, W 0 m [] H) ∧ ∀ i m ys H, W i m ys H → H D = some (.lst ys) ∧
    ((J.stop i H ∧ Q (.ref D) H) ∨ (J.go i H ∧ ∃ N : List V → Hp → Prop, (∀ ys' H', N ys' H' → ∃ m', m' < m ∧ W (i + 1) m' ys' H') ∧ ∀ x H', J.yld i H x H' → g x σ0 H' fun σ2 H2 => tc σ2 H2 fun b H3 =>
      if b = true then te σ2 H3 fun v H4 => H4 D = some (.lst ys) ∧ ys.length < sizeLine ∧ N (ys ++ [v]) (upd H4 D (.lst (ys ++ [v])))
      else N ys H3))
def tComp (wi : TI) (g : TG) (tc : TT) (te : TE) (n : Nat) (fv : List (Nat × Str)) : TE := fun σ H Q => wi σ H fun J H1 => ∀ D, H1 D = none → CompW J g tc te (compSt n fv σ) D Q (upd H1 D (.lst []))
section
variable {X : Cx} {tg elt iter : Expr} {ifs : List Expr} {scope : Scope} {own : List Str} {fv : List (Nat × Str)} {wi : TI} {g : TG} {tc : TT} {te : TE}
theorem comp_run {pos pos' : Pos} {use : Option (Value → Sem Unit)} {pins : List (Addr × Obj)} {s : Shared} {σ : St} {H : Hp} {Q : Value → Shared → Prop} {R : VK} {cl : List (Str × Addr)} (hc : X.calm = true) (hi : PI X tg iter wi) (I : Inv X pins σ H s)
    (ck : ClOk X scope cl) (fo : FvOk X scope fv) (gk : GKeep own.length g)
    (bg : ∀ fp pins s H, PG (cxComp X (own ++ fv.map (·.2)) scope cl fp pins s H) tg g)
    (bt : ∀ fp pins s H, PTs (cxComp X (own ++ fv.map (·.2)) scope cl fp pins s H) ifs tc)
    (be : ∀ fp pins s H, PE (cxComp X (own ++ fv.map (·.2)) scope cl fp pins s H) elt te)
    (hs : ∀ x, foldedSetIterable iter X.env x = pure x) (h : tComp wi g tc te own.length fv σ H R)
    (fin : ∀ D C H' s', Inv X pins σ H' s' → R (.ref D) H' → (∃ m, s'.heap.Ns C m) → H' C = none →
      (∀ pins1 σ1 H1 s1 h', Inv X pins1 σ1 H1 s1 → (∀ p ∈ pins1, p ∈ pins) → H1 C = none → Heap.SameBut C s1.heap h' → Inv X pins1 σ1 H1 { s1 with heap := h' }) → (C ≠ X.env.locals ∧ C ∉ X.fs) →
      compPost (model X.prog X.w) X.A X.xe use Q (.ref D) C (.ok .next) s') :
    wpAny (model X.prog X.w) X.A (comprehension (.ListComp elt [⟨tg, iter, ifs, 0⟩] scope pos) scope X.env pos' (newList []) false (eval iter X.env) use) Q X.xe s := by
  refine wpAny_comprehension_free (use := use) (g := ⟨tg, iter, ifs, 0⟩) (gs := []) rfl hs ck.clos ck.kind ck.names (thn (hi pins s σ H _ I h) fun v s1 h1 => thn h1 fun itv s2 h2 => ?_)
  obtain ⟨it, fp, tn, J, H2, e, I2, T, st2, f2, RR⟩ := h2
  subst e
  refine wpAny_newObj_type (wpAny_newFunctionEnv ck.cell (by intro y hy; simp at hy) (fun h₁ hns₁ hsb₁ => ?_) ck.kind)
  dsimp only at hns₁ hsb₁ ⊢
  have hD := I2.fresh
  have I3 : Inv X pins σ (upd H2 s2.heap.objs.size (.lst [])) { s2 with heap := s2.heap.push { cls := .type "list", dict := none, data := .seq ([] : List Value).toArray }, toks := s2.toks } := I2.lnew (its := []) .nil (Nat.zero_le _)
  obtain ⟨W, ⟨m0, w0⟩, turn⟩ := RR _ hD
  have olt : ∀ b ∈ fp, b < s2.heap.objs.size := fun b hb => by
    obtain ⟨o, e, _⟩ := T.obj _ _ st2 b hb
    exact Heap.lt_size e
  generalize hDD : s2.heap.objs.size = Da at *
  generalize hH3 : upd H2 Da (.lst []) = H3 at *
  have f3 : ∀ b ∈ fp, FpOk X pins H3 b := fun b hb => ⟨by rw [← hH3, upd_ne (Nat.ne_of_lt (olt b hb))]; exact (f2 b hb).1, (f2 b hb).2⟩
  generalize hs3 : ({ s2 with heap := s2.heap.push { cls := .type "list", dict := none, data := .seq ([] : List Value).toArray }, toks := s2.toks } : Shared) = s3 at *
  have e3 : s2.heap.push { cls := .type "list", dict := none, data := .seq ([] : List Value).toArray } = s3.heap := by rw [← hs3]
  rw [e3] at hns₁ hsb₁ ⊢
  have up2 : ∀ b o, s2.heap.get? b = some o → s3.heap.get? b = some o := fun b o e => by rw [← e3]; exact Heap.get?_push_of_some _ e
  have hlt : ∀ b ∈ fp, b < s3.heap.objs.size := fun b hb => by
    obtain ⟨o, e, _⟩ := T.obj _ _ st2 b hb
    exact Heap.lt_size (up2 _ _ e)
  have keep : ∀ b o, s3.heap.get? b = some o → h₁.get? b = some o := fun b o e => hsb₁.extBut b o (Nat.ne_of_lt (Heap.lt_size e)) (Heap.get?_push_of_some _ e)
  have stat : ∀ {H' : Hp}, (∀ b ∈ fp, H' b = none) → ∀ b ∈ fp, FpOk (cxComp X (own ++ fv.map (·.2)) scope cl fp pins s3 H3) [] H' b := fun {H'} hn b hb => by
    have ok := comp_ok (own := own) (fv := fv) I3 ck f3 hlt
    refine ⟨hn b hb, (ok.exf b hb).1, ok.exfs b hb, .inl hb, (ok.exf b hb).2, fun p hp => ?_⟩
    have hp' : p ∈ X.pn ++ pins := by
      rcases List.mem_append.mp hp with z | z
      · exact z
      · cases z
    exact (f3 b hb).2.2.2.2.2 p hp'
  have loop : ∀ s4 : Shared, Inv (cxComp X (own ++ fv.map (·.2)) scope cl fp pins s3 H3) [] (compSt own.length fv σ) H3 s4 → tn 0 s4.heap →
      codeAny (model X.prog X.w) X.A (.compLoop (.ListComp elt [⟨tg, iter, ifs, 0⟩] scope pos) 0 (.ref it) (.ref Da) (compEnvC scope cl s3.heap.objs.size X.env)) (compPost (model X.prog X.w) X.A X.xe use Q (.ref Da) s3.heap.objs.size) s4 := by
    intro s4 I4 st4
    refine codeAny_compLoop_go (fun n s' => ∃ i ys H', Inv (cxComp X (own ++ fv.map (·.2)) scope cl fp pins s3 H3) [] (compSt own.length fv σ) H' s' ∧ tn i s'.heap ∧ (∀ b ∈ fp, H' b = none) ∧ W i n ys H') ?_ m0
      ⟨0, [], H3, I4, st4, fun b hb => (f3 b hb).1, w0⟩
    rintro n s5 ⟨i, ys, H5, I5, st5, fr5, w5⟩
    obtain ⟨hDl, alt⟩ := turn i n ys H5 w5
    rcases alt with ⟨stop, qn⟩ | ⟨go, NN, hNN, step⟩
    · refine thn (T.done (cxComp X (own ++ fv.map (·.2)) scope cl fp pins s3 H3) rfl rfl rfl hc i [] s5 _ H5 _ I5 (stat fr5) st5 stop) fun r s6 ⟨hr, I6⟩ => ?_
      subst hr
      have hx := comp_ns I3 I6
      refine fin Da _ H5 s6 (comp_exit I3 f3 I6) qn hx.1 hx.2 (fun pins1 σ1 H1 s1 h' J1 hp1 hn1 sb => comp_forget I3 J1 hp1 hn1 sb) ⟨Ne.symm (Nat.ne_of_lt I3.lt), I3.nofs (Nat.le_refl _)⟩
    · refine thn (T.item (cxComp X (own ++ fv.map (·.2)) scope cl fp pins s3 H3) rfl rfl rfl hc i [] s5 _ H5 _ I5 (stat fr5) st5 go) fun r s6 ⟨u, hr, h6⟩ => ?_
      subst hr
      refine thn h6 fun _ s7 ⟨x, H7, I7, r7, y7, st7, fr7⟩ => ?_
      have I7' := I7.pinned (stat fr7) (T.obj _ _ st7)
      refine wpAny_mono (bg fp pins s3 H3 _ s7 _ H7 x u _ I7' r7 (gk _ _ _ _ (step x H7 y7))) (fun _ s8 ⟨σ8, H8, I8, ⟨kl, kk⟩, q8⟩ => ?_) (fun _ _ f => f.elim)
      have weak : ∀ {H9 : Hp} {s9 : Shared}, Inv (cxComp X (own ++ fv.map (·.2)) scope cl fp pins s3 H3) ([] ++ pinsAt fp s7.heap) σ8 H9 s9 →
          Inv (cxComp X (own ++ fv.map (·.2)) scope cl fp pins s3 H3) [] (compSt own.length fv σ) H9 s9 ∧ tn (i + 1) s9.heap ∧ (∀ b ∈ fp, H9 b = none) := fun {H9 s9} I9 => by
        refine ⟨I9.unpinned.weak kl.symm (fun j v hj => ?_), T.keep _ _ _ st7 fun b hb o e => (I9.pin (b, o) (List.mem_append_right _ (List.mem_append_right _ (mem_pinsAt hb e)))).1, fun b hb => ?_⟩
        · rw [kk j (compSt_get hj).1]
          exact hj
        · obtain ⟨o, e, d⟩ := T.obj _ _ st7 b hb
          exact (I9.pin (b, o) (List.mem_append_right _ (List.mem_append_right _ (mem_pinsAt hb e)))).2.1
      refine wpAny_mono (bt fp pins s3 H3 _ s8 σ8 H8 _ I8 q8) (fun b s9 ⟨H9, I9, q9⟩ => ?_) (fun _ _ f => f.elim)
      cases b with
      | false =>
        have q9' : NN ys H9 := q9
        obtain ⟨m', hm, w9⟩ := hNN _ _ q9'
        have wk := weak I9
        rw [if_neg Bool.false_ne_true]
        exact ⟨m', hm, i + 1, ys, H9, wk.1, wk.2.1, wk.2.2, w9⟩
      | true =>
        rw [if_pos rfl]
        rw [if_pos rfl] at q9
        refine wpAny_mono (be fp pins s3 H3 _ s9 σ8 H9 _ I9 q9) (fun y s10 ⟨v10, H10, I10, r10, d10, l10, n10⟩ => ?_) (fun _ _ f => f.elim)
        obtain ⟨m', hm, w10⟩ := hNN _ _ n10
        refine wpAny_mono (mt_append (X := cxComp X (own ++ fv.map (·.2)) scope cl fp pins s3 H3) _ s10 σ8 H10 (.ref Da) [v10] (.ref Da) [y] (fun _ H11 => H11 = upd H10 Da (.lst (ys ++ [v10]))) I10 rfl (.cons r10 .nil) ⟨Da, ys, v10, rfl, rfl, d10, l10, rfl⟩)
          (fun _ s11 ⟨v11, H11, I11, _, e11⟩ => ?_) (fun _ _ f => f.elim)
        subst e11
        have wk := weak I11
        exact ⟨m', hm, i + 1, ys ++ [v10], _, wk.1, wk.2.1, wk.2.2, w10⟩
  have I4 : Inv (cxComp X (own ++ fv.map (·.2)) scope cl fp pins s3 H3) [] (compSt own.length fv σ) H3 { s3 with heap := h₁, toks := s3.toks + ([] : List (Str × Value)).length } := comp_start I3 ck fo f3 hlt hns₁ keep
  have st4 : tn 0 h₁ := T.keep _ _ _ st2 fun b hb o e => keep b o (up2 b o e)
  have hfin : ∀ s4 : Shared, s4 = { s3 with heap := h₁, toks := s3.toks + ([] : List (Str × Value)).length } →
      codeAny (model X.prog X.w) X.A (.compStart (.ListComp elt [⟨tg, iter, ifs, 0⟩] scope pos) 0 (.ref it) (.ref Da) (compEnvC scope cl s3.heap.objs.size X.env)) (compPost (model X.prog X.w) X.A X.xe use Q (.ref Da) s3.heap.objs.size) s4 := by
    rintro s4 rfl
    refine codeAny_compStart_list (loop _ I4 st4) (T.self _ 0 _ _ _ st4 (loop _ I4 st4))
  refine hfin _ ?_
  rw [← hs3]
def freeOk (X : Cx) (scope : Scope) : Bool := scope.names.all fun y => !(y.2 == NameKind.free) || (X.env.scope.names.lookup y.1 == some .cell) || (X.env.scope.names.lookup y.1 == some .free)
theorem freeOk.all {X : Cx} {scope : Scope} (h : freeOk X scope = true) : ∀ y ∈ scope.names, y.2 = .free → X.env.kindOf y.1 = some .cell ∨ X.env.kindOf y.1 = some .free := fun y hy e => by
  have z := List.all_eq_true.mp h y hy
  rw [Bool.or_eq_true, Bool.or_eq_true] at z
  rcases z with (z | z) | z
  · rw [e] at z
    exact absurd z (by decide)
  · exact .inl (eq_of_beq z)
  · exact .inr (eq_of_beq z)
theorem nofree {X : Cx} {scope : Scope} (h : ∀ y ∈ scope.names, y.2 ≠ .free) : freeOk X scope = true := List.all_eq_true.mpr fun y hy => by
  have z : (y.2 == NameKind.free) = false := by simpa using h y hy
  rw [z]
  rfl
theorem pe_comp {pos : Pos} (own : List Str) (fv : List (Nat × Str)) (hc : X.calm = true) (hi : PI X tg iter wi) (fo : FvOk X scope fv) (gk : GKeep own.length g)
    (bg : ∀ fp pins s H, PG (cxComp X (own ++ fv.map (·.2)) scope (clF X.env scope.names []) fp pins s H) tg g)
    (bt : ∀ fp pins s H, PTs (cxComp X (own ++ fv.map (·.2)) scope (clF X.env scope.names []) fp pins s H) ifs tc)
    (be : ∀ fp pins s H, PE (cxComp X (own ++ fv.map (·.2)) scope (clF X.env scope.names []) fp pins s H) elt te)
    (kind : scope.kind = .function) (cell : ∀ y ∈ scope.names, y.2 ≠ .cell) (names : ∀ x ∈ scope.names, x.2 = .local → scope.names.lookup x.1 = some .local)
    (free : freeOk X scope = true)
    (hs : ∀ x, foldedSetIterable iter X.env x = pure x := by intro _; rfl) :
    PE X (.ListComp elt [⟨tg, iter, ifs, 0⟩] scope pos) (tComp wi g tc te own.length fv) := by
  intro pins s σ H Q I h
  rw [eval_ListComp]
  refine comp_run (use := none) hc hi I (clok_mk I.ok kind cell names (freeOk.all free)) fo gk bg bt be hs h fun D C H' s' I' q ⟨m, hm⟩ hn forget _ => ?_
  exact ⟨m, hm, fun h' sb => ⟨.ref D, H', forget pins σ H' s' h' I' (fun _ z => z) hn sb, rfl, q⟩⟩
theorem ps_setComp {pos spos py : Pos} {i : Nat} {y : Str} (own : List Str) (fv : List (Nat × Str)) (hN : X.N.Nodup) (hy : X.N[i]? = some y) (hx : Loc X.env.scope y) (hc : X.calm = true) (hi : PI X tg iter wi) (fo : FvOk X scope fv) (gk : GKeep own.length g)
    (bg : ∀ fp pins s H, PG (cxComp X (own ++ fv.map (·.2)) scope (clF X.env scope.names []) fp pins s H) tg g)
    (bt : ∀ fp pins s H, PTs (cxComp X (own ++ fv.map (·.2)) scope (clF X.env scope.names []) fp pins s H) ifs tc)
    (be : ∀ fp pins s H, PE (cxComp X (own ++ fv.map (·.2)) scope (clF X.env scope.names []) fp pins s H) elt te)
    (kind : scope.kind = .function) (cell : ∀ y ∈ scope.names, y.2 ≠ .cell) (names : ∀ x ∈ scope.names, x.2 = .local → scope.names.lookup x.1 = some .local)
    (free : freeOk X scope = true)
    (hsw : swapsWith (.ListComp elt [⟨tg, iter, ifs, 0⟩] scope pos) (some (.Name y py)) spos.line X.env = pure true)
    (hs : ∀ x, foldedSetIterable iter X.env x = pure x := by intro _; rfl) (hf : X.fn y = true ∨ X.env.scope.names.lookup y = some .local := by first | exact Or.inl rfl | exact Or.inr rfl) :
    PS X (.Assign [.Name y py] (.ListComp elt [⟨tg, iter, ifs, 0⟩] scope pos) spos) (tAsg (tComp wi g tc te own.length fv) (gName i)) := by
  intro pins s σ H D I h
  rw [exec_Assign_Name_used _ _ _ _ hsw]
  refine wpAny_bind (wpAny_standAt (wpAny_bind ?_))
  show wpAny _ X.A (do let _ ← comprehension (.ListComp elt [⟨tg, iter, ifs, 0⟩] scope pos) scope X.env _ (newList []) false (eval iter X.env) (some (assign (.Name y py) X.env))) _ _ s
  refine wpAny_bind (wpAny_mono (comp_run (use := some (assign (.Name y py) X.env)) (Q := fun _ s' => SP X pins D .next s') hc hi I (clok_mk I.ok kind cell names (freeOk.all free)) fo gk bg bt be hs h
    fun Da C H' s' I' q hm hn forget hC => ?_) (fun _ s' hq => wpAny_pure (wpAny_pure hq)) fun _ _ e => e)
  obtain ⟨m, o, es, ep, e, d, r⟩ := hm
  have I2 : Inv X (pins ++ [(C, o)]) σ H' s' := I'.pins_of fun p hp => by
    rcases List.mem_append.mp hp with z | z
    · exact I'.pin p (List.mem_append_right _ z)
    · rw [List.mem_singleton.mp z]
      exact ⟨e, hn, hC.1, hC.2, fun v z => by rw [d] at z; cases z⟩
  refine thn (pg_name hN hy hx hf _ s' σ H' (.ref Da) (.ref Da) _ I2 rfl q) fun _ s'' ⟨σ2, H2, I3, q2⟩ => ?_
  have pc := I3.pin (C, o) (List.mem_append_right _ (List.mem_append_right _ (List.mem_singleton.mpr rfl)))
  exact ⟨m, ⟨o, es, ep, pc.1, d, r⟩, fun h' sb => ⟨σ2, H2, forget pins σ2 H2 s'' h' I3.unpinned (fun _ z => z) pc.2.1 sb, q2⟩⟩
theorem comp_n {J : It} {D : Addr} {n : Nat} {σ0 : St} {H : Hp} {Q : VK} (Pv : Nat → List V → Hp → Prop) (h0 : Pv 0 [] H) (hD : ∀ i ys H, Pv i ys H → H D = some (.lst ys)) (hgo : ∀ i ys H, i < n → Pv i ys H → J.go i H)
    (hs : ∀ i ys H x H', i < n → Pv i ys H → J.yld i H x H' → g x σ0 H' fun σ2 H2 => tc σ2 H2 fun b H3 =>
      if b = true then te σ2 H3 fun v H4 => H4 D = some (.lst ys) ∧ ys.length < sizeLine ∧ Pv (i + 1) (ys ++ [v]) (upd H4 D (.lst (ys ++ [v]))) else Pv (i + 1) ys H3)
    (hd : ∀ ys H, Pv n ys H → J.stop n H ∧ Q (.ref D) H) :
    CompW J g tc te σ0 D Q H := by
  refine ⟨fun i m ys H => m = n - i ∧ i ≤ n ∧ Pv i ys H, ⟨n, by simp, Nat.zero_le _, h0⟩, ?_⟩
  rintro i m ys H ⟨rfl, hi, p⟩
  refine ⟨hD i ys H p, ?_⟩
  by_cases hlt : i < n
  · exact .inr ⟨hgo i ys H hlt p, Pv (i + 1), fun ys' H' z => ⟨n - (i + 1), by omega, rfl, hlt, z⟩, fun x H' y => hs i ys H x H' hlt p y⟩
  · have e : i = n := by omega
    subst e
    exact .inl (hd ys H p)
end
end L2
set_option maxHeartbeats 4000000
namespace L2
open PySem PySem.Spec PyProof.Rows
structure Callee (P : Program) (w : World) (K : PySem.W.Frag) (mg : Str → Option Value) (base : Heap) (k : Nat) (x : Str) (ps : List Str) (sp : Sp) : Prop where
  ex : ∃ (f : Addr) (fd : FuncData), FnOk P w K mg base CX0 k f fd ps sp ∧ mg x = some (.ref f) ∧ PySem.W.keepIn K (.ref f) = true ∧ Binds K fd ps [] ∧ ∃ o, K.lookup f = some o ∧ o.data = .func fd
theorem Callee.mono {P : Program} {w : World} {K : PySem.W.Frag} {mg : Str → Option Value} {base : Heap} {j k : Nat} {x : Str} {ps : List Str} {sp : Sp} (C : Callee P w K mg base j x ps sp) (h : j ≤ k) : Callee P w K mg base k x ps sp := by
  obtain ⟨f, fd, F, r⟩ := C.ex
  exact ⟨f, fd, F.mono h, r⟩
theorem Callee.imp {P : Program} {w : World} {K : PySem.W.Frag} {mg : Str → Option Value} {base : Heap} {k : Nat} {x : Str} {ps : List Str} {sp sp' : Sp} (C : Callee P w K mg base k x ps sp) (h : ∀ vs H Q E, sp' vs H Q E → sp vs H Q E) : Callee P w K mg base k x ps sp' := by
  obtain ⟨f, fd, F, r⟩ := C.ex
  exact ⟨f, fd, F.imp h, r⟩
structure Def (K : PySem.W.Frag) (mg : Str → Option Value) (x : Str) (st : Stmt) (ps : List Str) : Prop where
  ex : ∃ (f : Addr) (fd : FuncData), Fun K x x st f fd ∧ mg x = some (.ref f) ∧ Binds K fd ps [] ∧ ∀ (s : Shared) (us : List Value), us.length = ps.length → BindsTo s fd ⟨us, []⟩ (ps.zip us)
section
variable {P : Program} {w : World} {K : PySem.W.Frag} {mg : Str → Option Value} {base : Heap}
theorem Def.ok {x : Str} {st : Stmt} {N ps : List Str} {k : Nat} {sp : Sp} (D : Def K mg x st ps) (S : FnScope N ps (defScope st)) (len : ∀ vs H Q E, sp vs H Q E → vs.length = ps.length)
    (hbody : ∀ (f : Addr) (cdv : Value) (A : Around) (outer : List Env) (s : Shared) (H : Hp) (vs : List V) (Q : VK) (E : XK), Room k (A.deeper (envOfC x (defScope st) s.heap.objs.size f cdv)) → sp vs H Q E →
      ∃ t, PSs (cxOf CX0 P w K mg base N x (defScope st) f cdv A outer s H E).nox (defBody st) t ∧ t { nx := fun _ H' => Q .non H', rt := Q } (start N vs) H) : Callee P w K mg base (k + 1) x ps sp := by
  obtain ⟨f, fd, F, m, b, _⟩ := D.ex
  obtain ⟨oc, od, kV, doc, pm, an, cdv, ct, osl, _, lk, _⟩ := F.ex
  exact ⟨f, fd, F.ok S len (fun cdv A outer s H vs Q E hr h => hbody f cdv A outer s H vs Q E hr h), m, F.kp, b, _, lk, rfl⟩
theorem law_mk {x : Str} {st : Stmt} {k : Nat} {sp : Sp} {fa : Addr} (D : Def K mg x st ["script"]) (hfa : mg x = some (.ref fa)) (C : ∀ base : Heap, K.In base → base.Ns mainGlobals mg → Callee P w K mg base k x ["script"] sp) :
    ∃ fd : FuncData, (∀ (s : Shared) (u : Value), BindsTo s fd ⟨[u], []⟩ [("script", u)]) ∧ ∀ base : Heap, K.In base → base.Ns mainGlobals mg → FnOk P w K mg base CX0 k fa fd ["script"] sp := by
  obtain ⟨f, fd, F, m, b, bt⟩ := D.ex
  obtain ⟨oc, od, kV, doc, pm, an, cdv, ct, osl, _, lk, _⟩ := F.ex
  refine ⟨fd, fun s u => bt s [u] rfl, fun base kb nb => ?_⟩
  obtain ⟨f', fd', F', m', _, _, o, lk', e⟩ := (C base kb nb).ex
  rw [m] at hfa
  cases hfa
  rw [m] at m'
  cases m'
  rw [lk] at lk'
  cases lk'
  cases e
  exact F'
theorem def_mk {h : Heap} {x : Str} {st : Stmt} {ps : List Str} {f : Addr} {oc : Value} {od an : Option Addr} {osl : Array (Option Value)} {kV doc pm cdv ct : Value} (X : K.In h) (G : h.Ns mainGlobals mg)
    (hb : ∀ (kV doc pm : Value) (an : Option Addr) (cdv ct : Value) (us : List Value), us.length = ps.length → bindArgs (PySem.W.fnOf x x (defArgs st) (defBody st) (defScope st) .none kV doc pm an cdv ct) ⟨us, []⟩ = pure (ps.zip us))
    (a : PySem.W.nsIn K mainGlobals x = some (some (.ref f)))
    (l : K.lookup f = some ⟨oc, od, .func (PySem.W.fnOf x x (defArgs st) (defBody st) (defScope st) .none kV doc pm an cdv ct), osl⟩)
    (c : PySem.W.codeIn K cdv x = true) (k : PySem.W.keepIn K (.ref f) = true) : Def K mg x st ps := by
  have F := fun_mk (st := st) l c k
  exact ⟨f, _, F, PySem.W.mg_of X G a, F.binds hb, fun s us hl => .of_eq (hb _ _ _ _ _ _ us hl)⟩
end
section
variable {X : Cx} {k : Nat} {x : Str} {ps : List Str} {sp : Sp} {p pos : Pos} {e : Expr} {es : List Expr} {t : TA}
theorem pe_callC (C : Callee X.prog X.w X.K X.mg X.base k x ps sp) (hr : Room k X.A) (hg : Gl X x) (ha : PA X (e :: es) t) (hdb : (x == ("__debug__" : Str)) = false := by decide)
    (hst : starEach (e :: es) X.env = (false, eval e X.env) :: starEach es X.env := by rfl) (hpl : (backTo pos (starEach es X.env)).any (·.1) = false := by rfl) : PE X (.Call (.Name x p) (e :: es) [] pos) (tCall sp [] E0 t) := by
  obtain ⟨f, fd, F, m, kp, b, _⟩ := C.ex
  exact pe_call F hr hg m kp b .nil pass0 ha hdb hst hpl
end
section
variable {X : Cx}
inductive BT (H : Hp) : V → String → Prop where
  | non : BT H .non "NoneType"
  | bl (x : Bool) : BT H (.bl x) "bool"
  | int (i : Int) : BT H (.int i) "int"
  | str (x : Str) : BT H (.str x) "str"
  | lst {a : Addr} {xs : List V} (e : H a = some (.lst xs)) : BT H (.ref a) "list"
  | tup {a : Addr} {xs : List V} (e : H a = some (.tup xs)) : BT H (.ref a) "tuple"
  | dct {a : Addr} {kvs : List (Key × V)} (e : H a = some (.dK kvs)) : BT H (.ref a) "dict"
def subT (T U : String) : Bool := T == U || (T == "bool" && U == "int")
theorem kit_of (K : PySem.W.Frag) (T U : String) (hT : T ∈ ["NoneType", "bool", "int", "str", "list", "tuple", "dict"]) (hU : U ∈ ["bool", "int", "str", "list", "tuple"]) : PySem.W.kitOne K (.type T) (.type U) = some (subT T U) := by
  simp only [List.mem_cons, List.mem_nil_iff, or_false] at hT hU
  rcases hT with rfl | rfl | rfl | rfl | rfl | rfl | rfl <;> rcases hU with rfl | rfl | rfl | rfl | rfl <;> with_unfolding_all rfl
end
mutual
inductive Rep (K : PySem.W.Frag) (H : Hp) : V → PyData → Prop
  | non : Rep K H .non .none
  | bl (b : Bool) : Rep K H (.bl b) (.bool b)
  | int (i : Int) : Rep K H (.int i) (.int i)
  | str (x : Str) : Rep K H (.str x) (.str x)
  | lst {a : Addr} {xs : List V} {ds : List PyData} : SqL K H a xs → RepAll K H xs ds → Rep K H (.ref a) (.list ds)
  | tup {a : Addr} {xs : List V} {ds : List PyData} : SqT K H a xs → RepAll K H xs ds → Rep K H (.ref a) (.tuple ds)
  | dic {a : Addr} {kvs : List (Key × V)} : H a = some (.dK kvs) → Rep K H (.ref a) (.dict [])
inductive RepAll (K : PySem.W.Frag) (H : Hp) : List V → List PyData → Prop
  | nil : RepAll K H [] []
  | cons {x : V} {d : PyData} {xs : List V} {ds : List PyData} : Rep K H x d → RepAll K H xs ds → RepAll K H (x :: xs) (d :: ds)
end
theorem Same.seqT {K : PySem.W.Frag} {H H' : Hp} {a : Addr} {xs : List V} (e : Same H H') (h : SqT K H a xs) : SqT K H' a xs := by
  rcases h with (h | ⟨o, h⟩) | h
  · exact .inl (.inl (e _ _ h))
  · exact .inl (.inr ⟨o, e _ _ h⟩)
  · exact .inr h
theorem Same.new {H : Hp} {p : Addr} {o : HO} (h : H p = none) : Same H (upd H p o) := fun b u e => by
  rw [upd_ne (ne_of_none e h)]
  exact e
mutual
theorem Rep.mono {K : PySem.W.Frag} {H H' : Hp} (e : Same H H') : ∀ {x : V} {d : PyData}, Rep K H x d → Rep K H' x d
  | _, _, .non => .non
  | _, _, .bl b => .bl b
  | _, _, .int i => .int i
  | _, _, .str x => .str x
  | _, _, .lst q r => .lst (e.seq q) (RepAll.mono e r)
  | _, _, .tup q r => .tup (e.seqT q) (RepAll.mono e r)
  | _, _, .dic q => .dic (e _ _ q)
theorem RepAll.mono {K : PySem.W.Frag} {H H' : Hp} (e : Same H H') : ∀ {xs : List V} {ds : List PyData}, RepAll K H xs ds → RepAll K H' xs ds
  | _, _, .nil => .nil
  | _, _, .cons q r => .cons (Rep.mono e q) (RepAll.mono e r)
end
section
variable {X : Cx} {pins : List (Addr × Obj)} {σ : St} {H : Hp} {s : Shared}
mutual
theorem Rep.reads (I : Inv X pins σ H s) : ∀ {x : V} {d : PyData}, Rep X.K H x d → d.canLay0 = true → ∀ {u : Value}, RelV x u → ∃ as, Reads s.heap u d as
  | _, _, .non, _, _, r => by cases r; exact ⟨_, .none⟩
  | _, _, .bl b, _, _, r => by cases r; exact ⟨_, .bool b⟩
  | _, _, .int i, _, _, r => by obtain ⟨t, rfl⟩ := r; exact ⟨_, .int i t⟩
  | _, _, .str x, _, _, r => by obtain ⟨t, rfl⟩ := r; exact ⟨_, .str x t⟩
  | _, _, .lst q r, h, _, rv => by
    cases rv
    obtain ⟨its, v, pl, _⟩ := I.list q
    obtain ⟨as, z⟩ := RepAll.reads I r h v
    obtain ⟨o, n, e, c, _, d⟩ := pl
    exact ⟨_, reads_list_at e c d (by simpa using z)⟩
  | _, _, .tup q r, h, _, rv => by
    cases rv
    obtain ⟨its, v, pl, _⟩ := I.tuple q
    obtain ⟨as, z⟩ := RepAll.reads I r h v
    obtain ⟨o, e, c, n, d⟩ := pl
    exact ⟨_, reads_tuple_at e c d (by simpa using z)⟩
  | _, _, .dic _, h, _, _ => by cases h
theorem RepAll.reads (I : Inv X pins σ H s) : ∀ {xs : List V} {ds : List PyData}, RepAll X.K H xs ds → PyData.canLayAll0 ds = true → ∀ {us : List Value}, Vals xs us → ∃ as, ReadsAll s.heap us ds as
  | _, _, .nil, _, _, .nil => ⟨_, .nil⟩
  | _, _, .cons q r, h, _, .cons v vs => by
    obtain ⟨h1, h2⟩ := Bool.and_eq_true_iff.mp h
    obtain ⟨as, z⟩ := Rep.reads I q h1 v
    obtain ⟨bs, z2⟩ := RepAll.reads I r h2 vs
    exact ⟨_, .cons z z2⟩
end
end
section
variable {X : Cx}
theorem op_eqD (hu : X.A.units + 64 < cLine) : OpR X (compareOp .Eq) (fun x y H Q => ∃ d e, Rep X.K H x d ∧ Rep X.K H y e ∧ SeqAt.shaped d = true ∧ SeqAt.shaped e = true ∧ Q (.bl (PyData.eqv d e)) H) := by
  intro pins s σ H x y v u Q I rx ry h
  obtain ⟨d, e, rd, re, sd, se, q⟩ := h
  obtain ⟨as, ra⟩ := rd.reads I (Bool.and_eq_true_iff.mp sd).1 rx
  obtain ⟨bs, rb⟩ := re.reads I (Bool.and_eq_true_iff.mp se).1 ry
  exact eq_dataH ra rb sd se hu ⟨.bl _, H, I, rfl, q⟩
theorem op_neD (hu : X.A.units + 64 < cLine) : OpR X (compareOp .NotEq) (fun x y H Q => ∃ d e, Rep X.K H x d ∧ Rep X.K H y e ∧ SeqAt.shaped d = true ∧ SeqAt.shaped e = true ∧ Q (.bl (!PyData.eqv d e)) H) := by
  intro pins s σ H x y v u Q I rx ry h
  obtain ⟨d, e, rd, re, sd, se, q⟩ := h
  obtain ⟨as, ra⟩ := rd.reads I (Bool.and_eq_true_iff.mp sd).1 rx
  obtain ⟨bs, rb⟩ := re.reads I (Bool.and_eq_true_iff.mp se).1 ry
  exact ne_dataH ra rb sd se hu ⟨.bl _, H, I, rfl, q⟩
theorem hu64 {A : Around} {k : Nat} (hr : Room k A) : A.units + 64 < cLine := hr.units
theorem call_all : CallR X (.builtin "all") (fun xs H Q => X.A.handled = none ∧ ∃ (a : Addr) (bs : List Bool), xs = [.ref a] ∧ SqL X.K H a (bs.map V.bl) ∧ Q (.bl (bs.all id)) H) := by
  intro pins s σ H xs us Q I r h
  obtain ⟨hh, a, bs, rfl, hq, q⟩ := h
  obtain ⟨u, rfl, rx⟩ := vals1 r
  cases rx
  obtain ⟨its, v, pl, hz⟩ := I.list hq
  have hl := v.length
  refine call_all_walk (wpAny_pyIter_list pl.isList ?_)
  have hlt : a < s.heap.objs.size := by obtain ⟨_, e, _⟩ := pl.isList; exact Heap.lt_size e
  refine ⟨s.heap.objs.size, _, _, _, _, _, fun i => bs.getD i true, rfl, Walks.list (A := X.A.in1) hh s.heap.objs.size a (Nat.ne_of_lt hlt) its.toArray, ⟨⟨_, Heap.get?_push_size _ rfl, rfl, rfl⟩, pl.isList.push _⟩, ?_, fun h' tk hk => ?_⟩
  · intro i w' s' Q' E' hP hQ
    have hP' : its[i]? = some w' := by simpa using hP
    have hi : i < bs.length := by
      have := (List.getElem?_eq_some_iff.mp hP').1
      rw [List.length_map] at hl
      omega
    obtain ⟨w2, e2, r2⟩ := v.get (i := i) (x := .bl bs[i]) (by simp [hi])
    rw [hP'] at e2
    cases e2
    obtain rfl : w' = Value.bool bs[i] := r2
    have e3 : bs.getD i true = bs[i] := by simp [hi]
    have hQ2 : Q' (bs.getD i true) s' := hQ
    rw [e3] at hQ2
    exact wpAny_truthy_bool hQ2
  · have e : (List.range its.toArray.size).all (fun i => bs.getD i true) = bs.all id := by
      rw [List.length_map] at hl
      rw [List.size_toArray, ← hl, Bool.eq_iff_iff, List.all_eq_true, List.all_eq_true]
      constructor
      · intro z b hb
        obtain ⟨i, hi, rfl⟩ := List.mem_iff_getElem.mp hb
        have := z i (List.mem_range.mpr hi)
        simpa [hi] using this
      · intro z i hi
        have hi' := List.mem_range.mp hi
        have := z bs[i] (List.getElem_mem hi')
        simpa [hi'] using this
    rw [e]
    exact ⟨.bl _, H, I.kept (t' := tk) (fun b o e => hk b o (by simp; exact Nat.ne_of_lt (Heap.lt_size e)) (Heap.get?_push_of_some _ e)), rfl, q⟩
end
end L2
namespace L2
open PySem PySem.Spec PyProof.Rows
theorem eqv_pair (a b c d : Int) : PyData.eqv (.tuple [.int a, .int b]) (.tuple [.int c, .int d]) = decide (a = c ∧ b = d) := by
  simp [PyData.eqv, PyData.eqvAll]
  by_cases h1 : a = c <;> by_cases h2 : b = d <;> simp [h1, h2]
end L2
set_option maxHeartbeats 4000000
namespace L2
open PySem PySem.Spec PyProof.Rows
section
variable {X : Cx} {pins : List (Addr × Obj)} {σ : St} {H : Hp} {s : Shared} {h' : Heap}
theorem Inv.turnedL {t' : Nat} {ch : List Addr} (I : Inv X pins σ H s) (hch : ∀ b ∈ ch, FpOk X pins H b) (k : ∀ b u, b ∉ ch → s.heap.get? b = some u → h'.get? b = some u) : Inv X pins σ H { s with heap := h', toks := t' } := by
  have nch : ∀ b u, H b = some u → b ∉ ch := fun b u e z => by rw [(hch b z).1] at e; cases e
  refine I.step (g' := s.gens) (d' := s.drawn) (ch := ch) (fun b hb => ⟨(hch b hb).2.2.2.1, (hch b hb).2.1, (hch b hb).2.2.2.2.1, (hch b hb).2.2.2.2.2⟩) (fun b o _ _ hc e _ => k b o hc e) (fun b o _ _ hc e _ => ⟨o.slots, k b o hc e⟩) (fun _ _ _ _ n => n)
    (fun b o hc e => ⟨o, k b o hc e⟩) (fun _ _ e => e) (fun _ _ _ e => e) (fun b ps e => ⟨#[], by rw [e]; simp⟩) (fun m hm => ?_) (fun b u e => ?_) I.bare
  · obtain ⟨o, es, ep, ho, r⟩ := hm
    exact ⟨o, es, ep, k _ o (fun z => (hch _ z).2.1 rfl) ho, r⟩
  · refine (I.hok b u e).stay (fun c v hc q => k c v ?_ q) (fun _ q => q) fun _ _ q => q
    rcases hc with z | z
    · rw [z]; exact nch b u e
    · exact nch c _ z
theorem Inv.turnedNew {t' : Nat} {ch : List Addr} {a : Addr} {o : HO} (I : Inv X pins σ H s) (hch : ∀ b ∈ ch, FpOk X pins H b) (k : ∀ b u, b ∉ ch → s.heap.get? b = some u → h'.get? b = some u)
    (hp : s.heap.objs.size ≤ a) (new : ObjOk X.prog X.w (upd H a o) h' a o) : Inv X pins σ (upd H a o) { s with heap := h', toks := t' } := by
  have nch : ∀ b u, H b = some u → b ∉ ch := fun b u e z => by rw [(hch b z).1] at e; cases e
  have hn : H a = none := I.hok.fresh hp
  refine I.step (g' := s.gens) (d' := s.drawn) (ch := ch) (fun b hb => ⟨(hch b hb).2.2.2.1, (hch b hb).2.1, (hch b hb).2.2.2.2.1, (hch b hb).2.2.2.2.2⟩) (fun b o _ _ hc e _ => k b o hc e) (fun b o _ _ hc e _ => ⟨o.slots, k b o hc e⟩)
    (fun b u _ e n => by rw [upd_ne (Nat.ne_of_lt (Nat.lt_of_lt_of_le (Heap.lt_size e) hp))]; exact n)
    (fun b o hc e => ⟨o, k b o hc e⟩) (fun b xs e => by rw [upd_ne (ne_of_none e hn)]; exact e) (fun b u xs e => by rw [upd_ne (ne_of_none e hn)]; exact e) (fun b ps e => ⟨#[], by rw [upd_ne (ne_of_none e hn), e]; simp⟩) (fun m hm => ?_) (fun b u e => ?_) I.bare
  · obtain ⟨o, es, ep, ho, r⟩ := hm
    exact ⟨o, es, ep, k _ o (fun z => (hch _ z).2.1 rfl) ho, r⟩
  · by_cases hb : b = a
    · subst hb
      rw [upd_same] at e
      cases e
      exact new
    · rw [upd_ne hb] at e
      refine (I.hok b u e).stay (fun c v hc q => k c v ?_ q) (fun c q => by rw [upd_ne (ne_of_none q hn)]; exact q) fun c xs q => by rw [upd_ne (ne_of_none q hn)]; exact q
      rcases hc with z | z
      · rw [z]; exact nch b u e
      · exact nch c _ z
end
def Ite (K : PySem.W.Frag) (a : Addr) : It :=
  ⟨fun i H => ∃ xs x, SqL K H a xs ∧ xs[i]? = some x, fun i H x H' => ∃ p y, H p = none ∧ x = .ref p ∧ H' = upd H p (.tup [.int i, y]) ∧ ∀ xs, SqL K H a xs → xs[i]? = some y, fun i H => ∃ xs, SqL K H a xs ∧ xs.length ≤ i⟩
theorem turn_enum {P : Program} {w : World} {K : PySem.W.Frag} {elts : List Expr} {k1 : Nat} {pos : Pos} (a e it : Addr) (hei : e ≠ it) :
    Turn P w K (.Tuple elts k1 pos) (Ite K a) [e, it] e (fun i h => (∃ old, IsEnum h e it i old) ∧ h.IsListIter it a i) where
  mem := by simp
  obj := fun i h st b hb => by
    obtain ⟨⟨old, he⟩, hit⟩ := st
    rcases List.mem_cons.mp hb with rfl | hb
    · exact ⟨_, he, fun v z => by
        have z' : Data.fields _ = Data.cell v := z
        cases z'⟩
    · have e2 : b = it := by simpa using hb
      subst e2
      obtain ⟨o, e3, c, d⟩ := hit
      exact ⟨o, e3, fun v z => by rw [d] at z; cases z⟩
  keep := fun i h h' st k => by
    obtain ⟨⟨old, he⟩, hit⟩ := st
    exact ⟨⟨old, k e (by simp) _ he⟩, hit.at fun o q => k it (by simp) o q⟩
  item := by
    intro X hP hw hK hc i pins s σ H E I hf st hg
    subst hP hw hK
    obtain ⟨xs, x, hq, hx⟩ := hg
    obtain ⟨its, rv, p, hz⟩ := I.list hq
    obtain ⟨u, hu, ru⟩ := rv.get hx
    obtain ⟨⟨old, he⟩, hit⟩ := st
    refine wpAny_pyNext_enum_item he hit p.isList (x := u) (by simpa using hu) hei fun h1 ho hit1 hT hsz hk => ?_
    refine ⟨_, rfl, wpAny_letOwnedTupleGo_enum ho fun h2 he2 hs2 => ?_⟩
    have hlt : e < s.heap.objs.size := Heap.lt_size he
    have hilt : it < s.heap.objs.size := by obtain ⟨_, q, _⟩ := hit; exact Heap.lt_size q
    have hT2 : h2.get? s.heap.objs.size = some { cls := .type "tuple", data := .seq #[.int i s.toks, u] } := (hs2.2 _ (Nat.ne_of_gt hlt)).trans hT
    have I2 : Inv X pins σ (upd H s.heap.objs.size (.tup [.int i, x])) { s with heap := h2, toks := s.toks + 1 } := I.turnedNew (ch := [e, it]) hf (fun b o hb q => by
      have n1 : b ≠ e := fun z => hb (by simp [z])
      have n2 : b ≠ it := fun z => hb (by simp [z])
      exact (hs2.2 b n1).trans (hk b o n1 n2 q)) (Nat.le_refl _) ⟨by show 2 ≤ sizeLine; decide, [.int i s.toks, u], .cons ⟨_, rfl⟩ (.cons ru .nil), _, hT2, rfl, _, rfl⟩
    refine ⟨.ref s.heap.objs.size, _, I2, rfl, ⟨_, x, I.hok.fresh (Nat.le_refl _), rfl, rfl, fun ys hy => by rw [I.list_inj hy hq]; exact hx⟩, ⟨⟨_, by simpa using he2⟩, hit1.at fun o q => (hs2.2 it hei.symm).trans q⟩, fun b hb => ?_⟩
    have hb' : b < s.heap.objs.size := by
      rcases List.mem_cons.mp hb with rfl | hb
      · exact hlt
      · have e2 : b = it := by simpa using hb
        rw [e2]; exact hilt
    rw [upd_ne (Nat.ne_of_lt hb')]
    exact (hf b hb).1
  done := by
    intro X hP hw hK hc i pins s σ H E I hf st hg
    subst hP hw hK
    obtain ⟨xs, hq, hx⟩ := hg
    obtain ⟨its, rv, p, hz⟩ := I.list hq
    have hl := rv.length
    obtain ⟨⟨old, he⟩, hit⟩ := st
    refine wpAny_pyNext_enum_end (I.ok.hd hc) he hit p.isList (by simp; omega) fun h1 hk => ⟨rfl, I.turnedL (t' := s.toks) (ch := [e, it]) hf fun b o hb q => hk b o (fun z => hb (by simp [z])) q⟩
  self := fun _ _ _ _ _ st h => by
    obtain ⟨⟨old, he⟩, _⟩ := st
    exact wpAny_pyIter_enum he h
def Itz (K : PySem.W.Frag) (a b : Addr) : It :=
  ⟨fun i H => ∃ xs ys x y, SqL K H a xs ∧ SqL K H b ys ∧ xs[i]? = some x ∧ ys[i]? = some y,
   fun i H v H' => ∃ p x y, H p = none ∧ v = .ref p ∧ H' = upd H p (.tup [x, y]) ∧ (∀ xs, SqL K H a xs → xs[i]? = some x) ∧ ∀ ys, SqL K H b ys → ys[i]? = some y,
   fun i H => ∃ xs ys, SqL K H a xs ∧ SqL K H b ys ∧ min xs.length ys.length ≤ i⟩
theorem turn_zip {P : Program} {w : World} {K : PySem.W.Frag} {elts : List Expr} {k1 : Nat} {pos : Pos} (a b z TI TO i1 i2 : Addr) (D : ZipApart z TI TO i1 i2 a b) :
    Turn P w K (.Tuple elts k1 pos) (Itz K a b) [z, TI, TO, i1, i2] z (fun i h => IsZip h z TI TO .none ∧ IsPair h TI (.ref i1) (.ref i2) ∧ (∃ x y, IsPair h TO x y) ∧ h.IsListIter i1 a i ∧ h.IsListIter i2 b i) where
  mem := by simp
  obj := fun i h st c hc => by
    obtain ⟨hz, hTI, ⟨x, y, hTO⟩, h1, h2⟩ := st
    simp only [List.mem_cons, List.not_mem_nil, or_false] at hc
    rcases hc with rfl | rfl | rfl | rfl | rfl
    · exact ⟨_, hz, fun v q => by
        have q' : Data.fields _ = Data.cell v := q
        cases q'⟩
    · exact ⟨_, hTI, fun v q => by
        have q' : Data.seq _ _ = Data.cell v := q
        cases q'⟩
    · exact ⟨_, hTO, fun v q => by
        have q' : Data.seq _ _ = Data.cell v := q
        cases q'⟩
    · obtain ⟨o, e3, c, d⟩ := h1
      exact ⟨o, e3, fun v z => by rw [d] at z; cases z⟩
    · obtain ⟨o, e3, c, d⟩ := h2
      exact ⟨o, e3, fun v z => by rw [d] at z; cases z⟩
  keep := fun i h h' st k => by
    obtain ⟨hz, hTI, ⟨x, y, hTO⟩, h1, h2⟩ := st
    exact ⟨k z (by simp) _ hz, k TI (by simp) _ hTI, ⟨x, y, k TO (by simp) _ hTO⟩, h1.at fun o q => k i1 (by simp) o q, h2.at fun o q => k i2 (by simp) o q⟩
  item := by
    intro X hP hw hK hc i pins s σ H E I hf st hg
    subst hP hw hK
    obtain ⟨xs, ys, x, y, hqa, hqb, hx, hy⟩ := hg
    obtain ⟨its, rv, p, hz⟩ := I.list hqa
    obtain ⟨jts, rw', p', hz'⟩ := I.list hqb
    obtain ⟨u, hu, ru⟩ := rv.get hx
    obtain ⟨v, hv, rv2⟩ := rw'.get hy
    obtain ⟨hzz, hTI, ⟨x0, y0, hTO⟩, h1, h2⟩ := st
    refine wpAny_pyNext_zip_item D hzz hTI hTO h1 h2 p.isList p'.isList (x := u) (y := v) (by simpa using hu) (by simpa using hv) fun g1 hz1 hTO1 hi1 hi2 hP1 hsz hk => ?_
    refine ⟨_, rfl, wpAny_letOwnedTupleGo_zip hz1 fun g2 hz2 hs2 => ?_⟩
    have hlt : z < s.heap.objs.size := Heap.lt_size hzz
    have hT2 : IsPair g2 s.heap.objs.size u v := (hs2.2 _ (Nat.ne_of_gt hlt)).trans hP1
    have I2 : Inv X pins σ (upd H s.heap.objs.size (.tup [x, y])) { s with heap := g2, toks := s.toks } := I.turnedNew (ch := [z, TI, TO, i1, i2]) hf (fun c o hb q => by
      have n1 : c ≠ z := fun e => hb (by simp [e])
      exact (hs2.2 c n1).trans (hk c o n1 (fun e => hb (by simp [e])) (fun e => hb (by simp [e])) (fun e => hb (by simp [e])) q)) (Nat.le_refl _) ⟨by show 2 ≤ sizeLine; decide, [u, v], .cons ru (.cons rv2 .nil), _, hT2, rfl, _, rfl⟩
    refine ⟨.ref s.heap.objs.size, _, I2, rfl, ⟨_, x, y, I.hok.fresh (Nat.le_refl _), rfl, rfl, fun xs' h' => by rw [I.list_inj h' hqa]; exact hx, fun ys' h' => by rw [I.list_inj h' hqb]; exact hy⟩, ?_, fun c hc' => ?_⟩
    · refine ⟨hz2, (hs2.2 _ D.TIz).trans ?_, ⟨u, v, (hs2.2 _ D.TOz).trans hTO1⟩, hi1.at fun o q => (hs2.2 i1 D.i1z).trans q, hi2.at fun o q => (hs2.2 i2 D.i2z).trans q⟩
      exact hk TI _ D.TIz D.TITO D.TIi1 D.TIi2 hTI
    · have hb' : c < s.heap.objs.size := by
        simp only [List.mem_cons, List.not_mem_nil, or_false] at hc'
        rcases hc' with rfl | rfl | rfl | rfl | rfl
        · exact hlt
        · exact Heap.lt_size hTI
        · exact Heap.lt_size hTO
        · obtain ⟨_, q, _⟩ := h1; exact Heap.lt_size q
        · obtain ⟨_, q, _⟩ := h2; exact Heap.lt_size q
      rw [upd_ne (Nat.ne_of_lt hb')]
      exact (hf c hc').1
  done := by
    intro X hP hw hK hc i pins s σ H E I hf st hg
    subst hP hw hK
    obtain ⟨xs, ys, hqa, hqb, hm⟩ := hg
    obtain ⟨its, rv, p, hz⟩ := I.list hqa
    obtain ⟨jts, rw', p', hz'⟩ := I.list hqb
    have hl := rv.length
    have hl' := rw'.length
    obtain ⟨hzz, hTI, ⟨x0, y0, hTO⟩, h1, h2⟩ := st
    refine wpAny_pyNext_zip_end (I.ok.hd hc) D hzz hTI hTO h1 h2 p.isList p'.isList (by simp; omega) fun g1 hk => ⟨rfl, I.turnedL (t' := s.toks) (ch := [z, TI, TO, i1, i2]) hf fun c o hb q => hk c o (fun e => hb (by simp [e])) (fun e => hb (by simp [e])) (fun e => hb (by simp [e])) (fun e => hb (by simp [e])) q⟩
  self := fun _ _ _ _ _ st h => wpAny_pyIter_zip st.1 h
section
variable {X : Cx} {elts : List Expr} {k1 : Nat} {tpos : Pos}
def iEnum (K : PySem.W.Frag) (ta : TA) : TI := fun σ H R => ta σ H fun vs H1 => ∃ a, vs = [.ref a] ∧ (∃ xs, SqL K H1 a xs) ∧ R (Ite K a) H1
def iZip (K : PySem.W.Frag) (ta : TA) : TI := fun σ H R => ta σ H fun vs H1 => ∃ a b, vs = [.ref a, .ref b] ∧ (∃ xs, SqL K H1 a xs) ∧ (∃ ys, SqL K H1 b ys) ∧ R (Itz K a b) H1
theorem pi_enum {a : Expr} {ta : TA} {p pos : Pos} (hg : Gl X "enumerate") (hm : X.mg "enumerate" = none) (ha : PA X [a] ta) (hs : starEach [a] X.env = [(false, eval a X.env)] := by rfl) :
    PI X (.Tuple elts k1 tpos) (.Call (.Name "enumerate" p) [a] [] pos) (iEnum X.K ta) := by
  intro pins s σ H R I h
  refine Call_ (ld_blt I hg hm (by rfl) (PyProof.Rows.callWith_type1 (thn (ha pos pins s σ H _ I h) fun us s1 ⟨vs, H1, I1, r1, q1⟩ => ?_) hs rfl))
  obtain ⟨l, e, ⟨xs, hq⟩, q⟩ := q1
  subst e
  obtain ⟨u, rfl, rx⟩ := vals1 r1
  cases rx
  obtain ⟨its, rv, pl, hz⟩ := I1.list hq
  refine call_enumerate_list pl.isList fun h' he hit hsz hk => ?_
  have I2 : Inv X pins σ H1 { s1 with heap := h', toks := s1.toks } := I1.kept hk
  refine wpAny_pyIter_enum (s := { s1 with heap := h' }) he ?_
  refine ⟨s1.heap.objs.size + 1, [s1.heap.objs.size + 1, s1.heap.objs.size], _, _, H1, rfl, I2, turn_enum l (s1.heap.objs.size + 1) s1.heap.objs.size (Nat.succ_ne_self _), ⟨⟨_, by simpa using he⟩, hit⟩, fun b hb => ?_, q⟩
  simp only [List.mem_cons, List.not_mem_nil, or_false] at hb
  rcases hb with rfl | rfl
  · exact I1.fpOk (Nat.le_succ _) (I1.hok.fresh (Nat.le_succ _))
  · exact I1.fpOk (Nat.le_refl _) (I1.hok.fresh (Nat.le_refl _))
theorem pi_zip {a b : Expr} {ta : TA} {p pos : Pos} (hg : Gl X "zip") (hm : X.mg "zip" = none) (ha : PA X [a, b] ta) (hs : starEach [a, b] X.env = [(false, eval a X.env), (false, eval b X.env)] := by rfl) (hs2 : starEach [b] X.env = [(false, eval b X.env)] := by rfl) :
    PI X (.Tuple elts k1 tpos) (.Call (.Name "zip" p) [a, b] [] pos) (iZip X.K ta) := by
  intro pins s σ H R I h
  refine Call_ (ld_blt I hg hm (by rfl) (PyProof.Rows.callWith_type1 (thn (ha pos pins s σ H _ I h) fun us s1 ⟨vs, H1, I1, r1, q1⟩ => ?_) (by rw [hs, hs2]) (by rw [hs2]; rfl)))
  obtain ⟨l, l2, e, ⟨xs, hq⟩, ⟨ys, hq2⟩, q⟩ := q1
  subst e
  obtain ⟨u, u2, rfl, rx, rx2⟩ := vals2 r1
  cases rx
  cases rx2
  obtain ⟨its, rv, pl, hz⟩ := I1.list hq
  obtain ⟨jts, rv2, pl2, hz2⟩ := I1.list hq2
  have lt1 : l < s1.heap.objs.size := by obtain ⟨_, e, _⟩ := pl.isList; exact Heap.lt_size e
  have lt2 : l2 < s1.heap.objs.size := by obtain ⟨_, e, _⟩ := pl2.isList; exact Heap.lt_size e
  refine call_zip_2 pl.isList pl2.isList fun h' hzz hTI hTO hi1 hi2 hsz hk => ?_
  have I2 : Inv X pins σ H1 { s1 with heap := h', toks := s1.toks } := I1.kept hk
  refine wpAny_pyIter_zip (s := { s1 with heap := h' }) hzz ?_
  refine ⟨s1.heap.objs.size + 4, [s1.heap.objs.size + 4, s1.heap.objs.size + 2, s1.heap.objs.size + 3, s1.heap.objs.size, s1.heap.objs.size + 1], _, _, H1, rfl, I2, turn_zip l l2 _ _ _ _ _ (zipApart_new lt1 lt2), ⟨hzz, hTI, ⟨_, _, hTO⟩, hi1, hi2⟩, fun b hb => ?_, q⟩
  simp only [List.mem_cons, List.not_mem_nil, or_false] at hb
  have up : ∀ k, FpOk X pins H1 (s1.heap.objs.size + k) := fun k => I1.fpOk (Nat.le_add_right _ k) (I1.hok.fresh (Nat.le_add_right _ k))
  rcases hb with rfl | rfl | rfl | rfl | rfl
  · exact up 4
  · exact up 2
  · exact up 3
  · exact up 0
  · exact up 1
end
end L2
set_option maxHeartbeats 4000000
namespace L2
open PySem PySem.Spec PyProof.Rows
abbrev Thing := Option (Int × Int)
def encD : Thing → PyData
  | none => .tuple []
  | some (k, w) => .tuple [.int k, .int w]
section
variable {α β : Type} {F : α → β → Prop}
end
theorem canLay_T (t : Thing) : (encD t).canLay0 = true ∧ (encD t).depth ≤ 1 := by
  cases t with
  | none => simp [encD, PyData.canLay0, PyData.canLayAll0, PyData.depth, PyData.depthAll]
  | some kw => simp [encD, PyData.canLay0, PyData.canLayAll0, PyData.depth, PyData.depthAll]
theorem shaped_T (t : Thing) : SeqAt.shaped (encD t) = true := by
  have := canLay_T t
  unfold SeqAt.shaped
  rw [this.1, Bool.true_and]
  exact decide_eq_true (Nat.le_trans this.2 (by decide))
theorem canLays_T : ∀ ts : List Thing, PyData.canLayAll0 (ts.map encD) = true ∧ PyData.depthAll (ts.map encD) ≤ 1
  | [] => by simp [PyData.canLayAll0, PyData.depthAll]
  | t :: r => by
    have h1 := canLay_T t
    have h2 := canLays_T r
    simp only [List.map_cons, PyData.canLayAll0, PyData.depthAll, h1.1, h2.1, Bool.and_self, true_and]
    have a1 := h1.2
    have a2 := h2.2
    omega
theorem shaped_L (ts : List Thing) : SeqAt.shaped (.list (ts.map encD)) = true := by
  have := canLays_T ts
  unfold SeqAt.shaped
  simp only [PyData.canLay0, PyData.depth, this.1, Bool.true_and]
  exact decide_eq_true (by omega)
theorem eqv_T (t u : Thing) : PyData.eqv (encD t) (encD u) = decide (t = u) := by
  cases t with
  | none => cases u with
    | none => simp [encD, PyData.eqv, PyData.eqvAll]
    | some kw => simp [encD, PyData.eqv, PyData.eqvAll]
  | some kw => cases u with
    | none => simp [encD, PyData.eqv, PyData.eqvAll]
    | some kw' =>
      obtain ⟨a, b⟩ := kw
      obtain ⟨c, d⟩ := kw'
      show PyData.eqv (.tuple [.int a, .int b]) (.tuple [.int c, .int d]) = _
      rw [eqv_pair]
      by_cases h1 : a = c <;> by_cases h2 : b = d <;> simp [h1, h2]
theorem eqvAll_T : ∀ ts us : List Thing, PyData.eqvAll (ts.map encD) (us.map encD) = decide (ts = us)
  | [], [] => by simp [PyData.eqvAll]
  | [], _ :: _ => by simp [PyData.eqvAll]
  | _ :: _, [] => by simp [PyData.eqvAll]
  | t :: r, u :: q => by
    simp only [List.map_cons, PyData.eqvAll, eqv_T, eqvAll_T r q]
    by_cases h1 : t = u <;> by_cases h2 : r = q <;> simp [h1, h2]
theorem eqv_L (ts us : List Thing) : PyData.eqv (.list (ts.map encD)) (.list (us.map encD)) = decide (ts = us) := by
  simp only [PyData.eqv]
  exact eqvAll_T ts us
section
variable {X : Cx}
end
end L2
set_option maxHeartbeats 4000000
namespace L2
open PySem PySem.Spec PyProof.Rows
abbrev D := PyData
def hid (O : List Addr) (H : Hp) : Hp := fun b => if b ∈ O then none else H b
theorem hid_in {O : List Addr} {H : Hp} {b : Addr} (h : b ∈ O) : hid O H b = none := if_pos h
theorem hid_out {O : List Addr} {H : Hp} {b : Addr} (h : b ∉ O) : hid O H b = H b := if_neg h
theorem hid_some {O : List Addr} {H : Hp} {b : Addr} {o : HO} (h : hid O H b = some o) : b ∉ O ∧ H b = some o := by
  by_cases q : b ∈ O
  · rw [hid_in q] at h; cases h
  · rw [hid_out q] at h; exact ⟨q, h⟩
theorem hid_le {O : List Addr} {H : Hp} : Same (hid O H) H := fun b o h => (hid_some h).2
theorem hid_sub {O O' : List Addr} {H : Hp} (h : ∀ b, b ∈ O' → b ∈ O) : Same (hid O H) (hid O' H) := fun b o e => by
  obtain ⟨n, e⟩ := hid_some e
  rw [hid_out fun z => n (h b z)]
  exact e
theorem hid_same {O : List Addr} {H H' : Hp} (s : Same H H') : Same (hid O H) (hid O H') := fun b o e => by
  obtain ⟨n, e⟩ := hid_some e
  rw [hid_out n]
  exact s b o e
theorem hid_upd {O : List Addr} {H : Hp} {a : Addr} {o : HO} (h : a ∈ O) : hid O (upd H a o) = hid O H := by
  funext b
  by_cases q : b ∈ O
  · rw [hid_in q, hid_in q]
  · rw [hid_out q, hid_out q, upd_ne fun z => q (by rw [z]; exact h)]
theorem hid_nil {H : Hp} : hid [] H = H := by
  funext b
  exact hid_out (by simp)
theorem hid_new {O : List Addr} {H : Hp} {a : Addr} {o : HO} (h : H a = none) : Same (hid O H) (hid (a :: O) (upd H a o)) := fun b u e => by
  obtain ⟨n, e⟩ := hid_some e
  have nb : b ≠ a := ne_of_none e h
  rw [hid_out (by simp [nb, n]), upd_ne nb]
  exact e
def OkO (O : List Addr) (H : Hp) : Prop := ∀ a ∈ O, ∃ o, H a = some o
theorem OkO.mono {O : List Addr} {H H' : Hp} (k : OkO O H) (s : Same H H') : OkO O H' := fun a h => by
  obtain ⟨o, e⟩ := k a h
  exact ⟨o, s _ _ e⟩
theorem OkO.fresh {O : List Addr} {H : Hp} {a : Addr} (k : OkO O H) (h : H a = none) : a ∉ O := fun z => by
  obtain ⟨o, e⟩ := k a z
  rw [e] at h
  cases h
theorem OkO.nil {H : Hp} : OkO [] H := fun a h => by cases h
abbrev PEnv := List (Option D)
abbrev PF := PEnv → Option D
abbrev PB := PEnv → Option Bool
abbrev PAs := PEnv → Option (List D)
def EnvR (K : PySem.W.Frag) (H : Hp) (σ : St) (ρ : PEnv) : Prop := ∀ (i : Nat) (d : D), ρ[i]? = some (some d) → ∃ v, σ[i]? = some (some v) ∧ Rep K H v d
theorem EnvR.mono {K : PySem.W.Frag} {H H' : Hp} {σ : St} {ρ : PEnv} (e : EnvR K H σ ρ) (s : Same H H') : EnvR K H' σ ρ := fun i d h => by
  obtain ⟨v, e1, r⟩ := e i d h
  exact ⟨v, e1, r.mono s⟩
def PuE (K : PySem.W.Frag) (te : TE) (f : PF) : Prop := ∀ (O : List Addr) (σ : St) (H : Hp) (ρ : PEnv) (d : D) (Q : VK), OkO O H → EnvR K (hid O H) σ ρ → f ρ = some d →
  (∀ v H', Same H H' → Rep K (hid O H') v d → Q v H') → te σ H Q
def PuT (K : PySem.W.Frag) (te : TT) (f : PB) : Prop := ∀ (O : List Addr) (σ : St) (H : Hp) (ρ : PEnv) (b : Bool) (Q : Bool → Hp → Prop), OkO O H → EnvR K (hid O H) σ ρ → f ρ = some b →
  (∀ H', Same H H' → Q b H') → te σ H Q
def PuA (K : PySem.W.Frag) (te : TA) (f : PAs) : Prop := ∀ (O : List Addr) (σ : St) (H : Hp) (ρ : PEnv) (ds : List D) (Q : List V → Hp → Prop), OkO O H → EnvR K (hid O H) σ ρ → f ρ = some ds →
  (∀ vs H', Same H H' → RepAll K (hid O H') vs ds → Q vs H') → te σ H Q
def PuL (K : PySem.W.Frag) (te : TE) (f : PAs) : Prop := ∀ (O : List Addr) (σ : St) (H : Hp) (ρ : PEnv) (ds : List D) (Q : VK), OkO O H → EnvR K (hid O H) σ ρ → f ρ = some ds →
  (∀ a xs H', Same H H' → H a = none → H' a = some (.lst xs) → RepAll K (hid (a :: O) H') xs ds → Q (.ref a) H') → te σ H Q
def PuR (K : PySem.W.Frag) (r : R2) (g : D → D → Option D) : Prop := ∀ (O : List Addr) (H : Hp) (x y : V) (a b d : D) (Q : VK), OkO O H → Rep K (hid O H) x a → Rep K (hid O H) y b → g a b = some d →
  (∀ v H', Same H H' → Rep K (hid O H') v d → Q v H') → r x y H Q
def PuC (K : PySem.W.Frag) (r : List V → Hp → VK → Prop) (g : List D → Option D) : Prop := ∀ (O : List Addr) (H : Hp) (vs : List V) (ds : List D) (d : D) (Q : VK), OkO O H → RepAll K (hid O H) vs ds → g ds = some d →
  (∀ v H', Same H H' → Rep K (hid O H') v d → Q v H') → r vs H Q
def PuCL (K : PySem.W.Frag) (r : List V → Hp → VK → Prop) (g : List D → Option (List D)) : Prop := ∀ (O : List Addr) (H : Hp) (vs : List V) (ds es : List D) (Q : VK), OkO O H → RepAll K (hid O H) vs ds → g ds = some es →
  (∀ a xs H', Same H H' → H a = none → H' a = some (.lst xs) → RepAll K (hid (a :: O) H') xs es → Q (.ref a) H') → r vs H Q
structure JE (X : Cx) (K : PySem.W.Frag) (e : Expr) (te : TE) (f : PF) : Prop where
  pe : PE X e te
  pu : PuE K te f
structure JT (X : Cx) (K : PySem.W.Frag) (e : Expr) (te : TT) (f : PB) : Prop where
  pe : PT X e te
  pu : PuT K te f
structure JW (X : Cx) (K : PySem.W.Frag) (e : Expr) (te : TT) (f : PB) : Prop where
  pe : PW X e te
  pu : PuT K te f
structure JA (X : Cx) (K : PySem.W.Frag) (es : List Expr) (te : TA) (f : PAs) : Prop where
  pe : PA X es te
  pu : PuA K te f
structure JL (X : Cx) (K : PySem.W.Frag) (e : Expr) (te : TE) (f : PAs) : Prop where
  pe : PE X e te
  pu : PuL K te f
structure OpJ (X : Cx) (K : PySem.W.Frag) (f : Value → Value → Sem Value) (r : R2) (g : D → D → Option D) : Prop where
  pe : OpR X f r
  pu : PuR K r g
structure CallJ (X : Cx) (K : PySem.W.Frag) (f : Value) (r : List V → Hp → VK → Prop) (g : List D → Option D) : Prop where
  pe : CallR X f r
  pu : PuC K r g
structure CallJL (X : Cx) (K : PySem.W.Frag) (f : Value) (r : List V → Hp → VK → Prop) (g : List D → Option (List D)) : Prop where
  pe : CallR X f r
  pu : PuCL K r g
def pVar (i : Nat) : PF := fun ρ => (ρ[i]?).join
def pCon (d : D) : PF := fun _ => some d
def pOp (g : D → D → Option D) (a b : PF) : PF := fun ρ => (a ρ).bind fun x => (b ρ).bind fun y => g x y
def pUn (g : D → Option D) (a : PF) : PF := fun ρ => (a ρ).bind g
def asB : D → Option Bool
  | .bool b => some b
  | _ => none
def pTest (a : PF) : PB := fun ρ => (a ρ).bind asB
def pNotT (a : PB) : PB := fun ρ => (a ρ).map (!·)
def pAndT (a b : PB) : PB := fun ρ => (a ρ).bind fun x => if x = true then b ρ else some false
def pOrT (a b : PB) : PB := fun ρ => (a ρ).bind fun x => if x = true then some true else b ρ
def pTrue : PB := fun _ => some true
def pAnd (a b : PF) : PF := fun ρ => (a ρ).bind fun x => (asB x).bind fun k => if k = true then b ρ else some (.bool false)
def pOr (a b : PF) : PF := fun ρ => (a ρ).bind fun x => (asB x).bind fun k => if k = true then some (.bool true) else b ρ
def pNot (a : PF) : PF := fun ρ => (a ρ).bind fun x => (asB x).bind fun k => some (.bool (!k))
def pIf (c : PB) (a b : PF) : PF := fun ρ => (c ρ).bind fun x => if x = true then a ρ else b ρ
def pChain (g g' : D → D → Option D) (a b c : PF) : PF := fun ρ => (a ρ).bind fun x => (b ρ).bind fun y => (g x y).bind fun z => (asB z).bind fun k => if k = true then (c ρ).bind fun u => g' y u else some (.bool false)
def pNil : PAs := fun _ => some []
def pCons (a : PF) (r : PAs) : PAs := fun ρ => (a ρ).bind fun x => (r ρ).bind fun xs => some (x :: xs)
def fits (n : Nat) : Bool := decide (n < sizeLine)
def pTup (r : PAs) : PF := fun ρ => (r ρ).bind fun xs => if fits xs.length = true then some (.tuple xs) else none
def pLst (r : PAs) : PAs := fun ρ => (r ρ).bind fun xs => if fits xs.length = true then some xs else none
def pOfL (r : PAs) : PF := fun ρ => (r ρ).map PyData.list
def pCall (f : List D → Option D) (r : PAs) : PF := fun ρ => (r ρ).bind f
def pCallL (f : List D → Option (List D)) (r : PAs) : PAs := fun ρ => (r ρ).bind f
def dI (g : Int → Int → D) : D → D → Option D
  | .int a, .int b => some (g a b)
  | _, _ => none
def dIC (C : Int → Int → Bool) (g : Int → Int → D) : D → D → Option D
  | .int a, .int b => if C a b = true then some (g a b) else none
  | _, _ => none
def dAdd := dI fun i j => .int (i + j)
def dSub := dI fun i j => .int (i - j)
def small (i : Int) : Bool := decide (-(2 ^ 64) < i ∧ i < 2 ^ 64)
def dMul := dIC (fun i j => small i || small j) fun i j => .int (i * j)
def Wide (j : Int) : Prop := 0 < j ∧ j.natAbs.log2 < 9000
instance (j : Int) : Decidable (Wide j) := instDecidableAnd
def dDiv := dIC (fun _ j => decide ((0 < j ∧ j < 1073741824) ∨ Wide j)) fun i j => .int (i / j)
theorem wide_of {j : Int} (h : (0 < j ∧ j < 1073741824) ∨ Wide j) : Wide j := by
  rcases h with ⟨h0, h1⟩ | h
  · refine ⟨h0, ?_⟩
    have h30 : j.natAbs.log2 < 30 := (Nat.log2_lt (by omega)).mpr (by omega)
    omega
  · exact h
def dMod := dIC (fun _ j => decide (0 < j)) fun i j => .int (i % j)
def dPow := dIC (fun i j => decide (0 ≤ j ∧ j ≤ 1000000 ∧ i.natAbs < 2 ^ 64)) fun i j => .int (i ^ j.toNat)
def dLt := dI fun i j => .bool (decide (i < j))
def dLe := dI fun i j => .bool (decide (i ≤ j))
def dGt := dI fun i j => .bool (decide (j < i))
def dGe := dI fun i j => .bool (decide (j ≤ i))
def dEq (a b : D) : Option D := if SeqAt.shaped a = true ∧ SeqAt.shaped b = true then some (.bool (PyData.eqv a b)) else none
def dNe (a b : D) : Option D := if SeqAt.shaped a = true ∧ SeqAt.shaped b = true then some (.bool (!PyData.eqv a b)) else none
def isNon : D → Bool
  | .none => true
  | _ => false
def dIsN (a b : D) : Option D := if isNon b = true then some (.bool (isNon a)) else none
def dNotN (a b : D) : Option D := if isNon b = true then some (.bool (!isNon a)) else none
def dIx : D → D → Option D
  | .list ds, .int i => atI ds i
  | .tuple ds, .int i => atI ds i
  | .str z, .int i => if z.length ≤ sizeLine then (atI z.cps.toList i).map fun c => .str ⟨#[c]⟩ else none
  | _, _ => none
def dNeg : D → Option D
  | .int i => some (.int (-i))
  | _ => none
section
variable {X : Cx} {K : PySem.W.Frag}
theorem Rep.hid {O : List Addr} {H H' : Hp} {v : V} {d : D} (r : Rep K (hid O H) v d) (s : Same H H') : Rep K (L2.hid O H') v d := r.mono (hid_same s)
theorem RepAll.hid {O : List Addr} {H H' : Hp} {v : List V} {d : List D} (r : RepAll K (L2.hid O H) v d) (s : Same H H') : RepAll K (L2.hid O H') v d := r.mono (hid_same s)
theorem EnvR.hid {O : List Addr} {H H' : Hp} {σ : St} {ρ : PEnv} (r : EnvR K (L2.hid O H) σ ρ) (s : Same H H') : EnvR K (L2.hid O H') σ ρ := r.mono (hid_same s)
theorem JL.je {e : Expr} {te : TE} {f : PAs} (j : JL X K e te f) : JE X K e te (pOfL f) := ⟨j.pe, by
  intro O σ H ρ d Q ok er hf q
  have hf' : (f ρ).map PyData.list = some d := hf
  cases e1 : f ρ with
  | none => rw [e1] at hf'; cases hf'
  | some ds =>
    rw [e1] at hf'
    cases hf'
    refine j.pu O σ H ρ ds Q ok er e1 fun a xs H' s hn ha r => q _ H' s ?_
    have na : a ∉ O := ok.fresh hn
    exact .lst (SqL.of (by rw [hid_out na]; exact ha)) (r.mono (hid_sub fun b hb => List.mem_cons_of_mem _ hb))⟩
theorem je_var (i : Nat) {x : Str} {pos : Pos} (hN : X.N[i]? = some x := by rfl) (hv : Vis X.env.scope x := by first | exact Or.inl rfl | exact Or.inr (Or.inl rfl) | exact Or.inr (Or.inr rfl)) (hd : (x == ("__debug__" : Str)) = false := by decide)
    (hcd : (x == ("__classdict__" : Str)) = false := by decide) : JE X K (.Name x pos) (tVar i) (pVar i) := ⟨pe_var hN hv hd hcd, by
  intro O σ H ρ d Q ok er hf q
  have hf' : (ρ[i]?).join = some d := hf
  have h2 : ρ[i]? = some (some d) := by
    cases e1 : ρ[i]? with
    | none => rw [e1] at hf'; cases hf'
    | some o => rw [e1] at hf'; rw [show o = some d from hf']
  obtain ⟨v, e2, r⟩ := er i d h2
  exact ⟨v, e2, q v H (Same.refl H) r⟩⟩
theorem pu_con {v : V} {d : D} (h : ∀ H, Rep K H v d) : PuE K (tC v) (pCon d) := by
  intro O σ H ρ d' Q ok er hf q
  cases hf
  exact q v H (Same.refl H) (h _)
theorem je_int {i j pos} : JE X K (.Constant (.int i) j pos) (tC (.int i)) (pCon (.int i)) := ⟨pe_int, pu_con fun _ => .int i⟩
theorem je_bl {b j pos} : JE X K (.Constant (.bool b) j pos) (tC (.bl b)) (pCon (.bool b)) := ⟨pe_bl, pu_con fun _ => .bl b⟩
theorem je_non {j pos} : JE X K (.Constant .none j pos) (tC .non) (pCon .none) := ⟨pe_non, pu_con fun _ => .non⟩
theorem je_str {x j pos} : JE X K (.Constant (.str x) j pos) (tC (.str x)) (pCon (.str x)) := ⟨pe_str, pu_con fun _ => .str x⟩
theorem je_glob {x : Str} {i : Int} {pos : Pos} (hg : Gl X x) (hm : ∃ t, X.mg x = some (.int i t)) (hd : (x == ("__debug__" : Str)) = false := by decide) : JE X K (.Name x pos) (tC (.int i)) (pCon (.int i)) := by
  obtain ⟨t, hm⟩ := hm
  exact ⟨pe_glob hg hm ⟨t, rfl⟩ hd, pu_con fun _ => .int i⟩
section
variable {a b c : Expr} {ta tb tc : TE} {fa fb fc : PF} {pos : Pos} {r r' : R2} {g g' : D → D → Option D}
theorem bind_some' {α β : Type} {o : Option α} {f : α → Option β} {b : β} (h : o.bind f = some b) : ∃ x, o = some x ∧ f x = some b := by
  cases o with
  | none => cases h
  | some x => exact ⟨x, rfl, h⟩
theorem pu_op (hr : PuR K r g) (ha : PuE K ta fa) (hb : PuE K tb fb) : PuE K (tOp r ta tb) (pOp g fa fb) := by
  intro O σ H ρ d Q ok er hf q
  obtain ⟨x, e1, hf⟩ := bind_some' hf
  obtain ⟨y, e2, hf⟩ := bind_some' hf
  refine ha O σ H ρ x _ ok er e1 fun v H1 s1 r1 => ?_
  refine hb O σ H1 ρ y _ (ok.mono s1) (er.hid s1) e2 fun u H2 s2 r2 => ?_
  exact hr O H2 v u x y d Q ((ok.mono s1).mono s2) (r1.hid s2) r2 hf fun w H3 s3 r3 => q w H3 ((s1.trans s2).trans s3) r3
theorem je_op {op : Operator} (ho : OpJ X K (binaryOp op) r g) (ha : JE X K a ta fa) (hb : JE X K b tb fb) : JE X K (.BinOp a op b pos) (tOp r ta tb) (pOp g fa fb) :=
  ⟨pe_op ho.pe ha.pe hb.pe, pu_op ho.pu ha.pu hb.pu⟩
theorem je_cmp {op : CmpOp} (ho : OpJ X K (compareOp op) r g) (ha : JE X K a ta fa) (hb : JE X K b tb fb) (hm : behindInMarks op b = false) : JE X K (.Compare a [op] [b] pos) (tOp r ta tb) (pOp g fa fb) :=
  ⟨pe_cmpR ho.pe ha.pe hb.pe hm, pu_op ho.pu ha.pu hb.pu⟩
theorem rep_bool {H : Hp} {v : V} {d : D} {b : Bool} (r : Rep K H v d) (h : asB d = some b) : v = .bl b := by
  cases r with
  | bl k => cases h; rfl
  | _ => cases h
theorem pu_test {t : TE} {f : PF} (h : PuE K t f) : PuT K (tTest t) (pTest f) := by
  intro O σ H ρ k Q ok er hf q
  obtain ⟨x, e1, hf⟩ := bind_some' hf
  exact h O σ H ρ x _ ok er e1 fun v H1 s1 r1 => ⟨k, rep_bool r1 hf, q H1 s1⟩
theorem jt_cmp {op : CmpOp} (ho : OpJ X K (compareOp op) r g) (ha : JE X K a ta fa) (hb : JE X K b tb fb) (hm : behindInMarks op b = false) : JT X K (.Compare a [op] [b] pos) (tTest (tOp r ta tb)) (pTest (pOp g fa fb)) :=
  ⟨pt_cmpR ho.pe ha.pe hb.pe hm, pu_test (pu_op ho.pu ha.pu hb.pu)⟩
theorem pu_chain (hr : PuR K r g) (hr' : PuR K r' g') (ha : PuE K ta fa) (hb : PuE K tb fb) (hc : PuE K tc fc) : PuE K (tChain r r' ta tb tc) (pChain g g' fa fb fc) := by
  intro O σ H ρ d Q ok er hf q
  obtain ⟨x, e1, hf⟩ := bind_some' hf
  obtain ⟨y, e2, hf⟩ := bind_some' hf
  obtain ⟨z, e3, hf⟩ := bind_some' hf
  obtain ⟨k, e4, hf⟩ := bind_some' hf
  refine ha O σ H ρ x _ ok er e1 fun v H1 s1 r1 => ?_
  refine hb O σ H1 ρ y _ (ok.mono s1) (er.hid s1) e2 fun u H2 s2 r2 => ?_
  have ok2 := (ok.mono s1).mono s2
  refine hr O H2 v u x y z _ ok2 (r1.hid s2) r2 e3 fun w H3 s3 r3 => ⟨k, rep_bool r3 e4, ?_⟩
  have s13 := (s1.trans s2).trans s3
  cases k with
  | true =>
    rw [if_pos rfl] at hf ⊢
    obtain ⟨u', e5, hf⟩ := bind_some' hf
    refine hc O σ H3 ρ u' _ (ok2.mono s3) (er.hid s13) e5 fun w' H4 s4 r4 => ?_
    exact hr' O H4 u w' y u' d Q ((ok2.mono s3).mono s4) (r2.hid (s3.trans s4)) r4 hf fun w2 H5 s5 r5 => q w2 H5 ((s13.trans s4).trans s5) r5
  | false =>
    rw [if_neg Bool.false_ne_true] at hf ⊢
    cases hf
    exact q _ H3 s13 (.bl false)
theorem je_chain {op op' : CmpOp} (ho : OpJ X K (compareOp op) r g) (ho' : OpJ X K (compareOp op') r' g') (ha : JE X K a ta fa) (hb : JE X K b tb fb) (hc : JE X K c tc fc)
    (hm : lastMarks [op, op'] [b, c] = false := by with_unfolding_all rfl) : JE X K (.Compare a [op, op'] [b, c] pos) (tChain r r' ta tb tc) (pChain g g' fa fb fc) := ⟨pe_chain ho.pe ho'.pe ha.pe hb.pe hc.pe hm, pu_chain ho.pu ho'.pu ha.pu hb.pu hc.pu⟩
theorem jt_chain {op op' : CmpOp} (ho : OpJ X K (compareOp op) r g) (ho' : OpJ X K (compareOp op') r' g') (ha : JE X K a ta fa) (hb : JE X K b tb fb) (hc : JE X K c tc fc)
    (hm : lastMarks [op, op'] [b, c] = false := by with_unfolding_all rfl) : JT X K (.Compare a [op, op'] [b, c] pos) (tTest (tChain r r' ta tb tc)) (pTest (pChain g g' fa fb fc)) := ⟨pt_chain ho.pe ho'.pe ha.pe hb.pe hc.pe hm, pu_test (pu_chain ho.pu ho'.pu ha.pu hb.pu hc.pu)⟩
end
theorem pur_I0 {g : Int → Int → V} {g' : Int → Int → D} (h : ∀ i j H, Rep K H (g i j) (g' i j)) : PuR K (rI0 g) (dI g') := by
  intro O H x y a b d Q ok ra rb hg q
  cases ra with
  | int i =>
    cases rb with
    | int j =>
      cases hg
      exact ⟨i, j, rfl, rfl, q _ H (Same.refl H) (h i j _)⟩
    | _ => cases hg
  | _ => cases rb <;> cases hg
theorem pur_I {C : Int → Int → Prop} {C' : Int → Int → Bool} {g : Int → Int → V} {g' : Int → Int → D} (hC : ∀ i j, C' i j = true → C i j) (h : ∀ i j H, Rep K H (g i j) (g' i j)) : PuR K (rI C g) (dIC C' g') := by
  intro O H x y a b d Q ok ra rb hg q
  cases ra with
  | int i =>
    cases rb with
    | int j =>
      have hg' : (if C' i j = true then some (g' i j) else none) = some d := hg
      by_cases hc : C' i j = true
      · rw [if_pos hc] at hg'
        cases hg'
        exact ⟨i, j, rfl, rfl, hC i j hc, q _ H (Same.refl H) (h i j _)⟩
      · rw [if_neg hc] at hg'
        cases hg'
    | _ => cases hg
  | _ => cases rb <;> cases hg
theorem jo_add : OpJ X K (binaryOp .Add) (rI0 fun i j => .int (i + j)) dAdd := ⟨op_add, pur_I0 fun i j H => .int _⟩
theorem jo_sub : OpJ X K (binaryOp .Sub) (rI0 fun i j => .int (i - j)) dSub := ⟨op_sub, pur_I0 fun i j H => .int _⟩
theorem jo_mul : OpJ X K (binaryOp .Mult) (rI CMul fun i j => .int (i * j)) dMul := ⟨op_mul, pur_I (fun i j h => by
  rw [Bool.or_eq_true] at h
  exact h.imp (fun z => of_decide_eq_true z) (fun z => of_decide_eq_true z)) fun i j H => .int _⟩
theorem op_fdivW : OpR X (binaryOp .FloorDiv) (rI (fun _ j => Wide j) fun i j => .int (i / j)) := opI fun i j _ _ _ _ _ hc q => by
  have h1 : (0 : Int) < j := hc.1
  exact floordiv_int (by omega) (by rw [Int.fdiv_eq_ediv_of_nonneg i (by omega)]; exact q) (.inl (PyProof.noPylong_of_log2 hc.2))
theorem jo_div : OpJ X K (binaryOp .FloorDiv) (rI (fun _ j => Wide j) fun i j => .int (i / j)) dDiv := ⟨op_fdivW, pur_I (fun i j h => wide_of (of_decide_eq_true h)) fun i j H => .int _⟩
theorem jo_mod : OpJ X K (binaryOp .Mod) (rI (fun _ j => 0 < j) fun i j => .int (i % j)) dMod := ⟨op_mod, pur_I (fun i j h => of_decide_eq_true h) fun i j H => .int _⟩
theorem jo_pow : OpJ X K (binaryOp .Pow) (rI CPow fun i j => .int (i ^ j.toNat)) dPow := ⟨op_pow, pur_I (fun i j h => (of_decide_eq_true h : 0 ≤ j ∧ j ≤ 1000000 ∧ i.natAbs < 2 ^ 64)) fun i j H => .int _⟩
theorem jo_lt : OpJ X K (compareOp .Lt) (rI0 fun i j => .bl (decide (i < j))) dLt := ⟨op_lt, pur_I0 fun i j H => .bl _⟩
theorem jo_le : OpJ X K (compareOp .LtE) (rI0 fun i j => .bl (decide (i ≤ j))) dLe := ⟨op_le, pur_I0 fun i j H => .bl _⟩
theorem jo_gt : OpJ X K (compareOp .Gt) (rI0 fun i j => .bl (decide (j < i))) dGt := ⟨op_gt, pur_I0 fun i j H => .bl _⟩
def rEqD (K : PySem.W.Frag) : R2 := fun x y H Q => ∃ d e, Rep K H x d ∧ Rep K H y e ∧ SeqAt.shaped d = true ∧ SeqAt.shaped e = true ∧ Q (.bl (PyData.eqv d e)) H
def rNeD (K : PySem.W.Frag) : R2 := fun x y H Q => ∃ d e, Rep K H x d ∧ Rep K H y e ∧ SeqAt.shaped d = true ∧ SeqAt.shaped e = true ∧ Q (.bl (!PyData.eqv d e)) H
theorem jo_eq (hK : X.K = K) (hu : X.A.units + 64 < cLine) : OpJ X K (compareOp .Eq) (rEqD K) dEq := ⟨by subst hK; exact op_eqD hu, by
  intro O H x y a b d Q ok ra rb hg q
  unfold dEq at hg
  by_cases hc : SeqAt.shaped a = true ∧ SeqAt.shaped b = true
  · rw [if_pos hc] at hg
    cases hg
    exact ⟨a, b, ra.mono hid_le, rb.mono hid_le, hc.1, hc.2, q _ H (Same.refl H) (.bl _)⟩
  · rw [if_neg hc] at hg
    cases hg⟩
theorem jo_ne (hK : X.K = K) (hu : X.A.units + 64 < cLine) : OpJ X K (compareOp .NotEq) (rNeD K) dNe := ⟨by subst hK; exact op_neD hu, by
  intro O H x y a b d Q ok ra rb hg q
  unfold dNe at hg
  by_cases hc : SeqAt.shaped a = true ∧ SeqAt.shaped b = true
  · rw [if_pos hc] at hg
    cases hg
    exact ⟨a, b, ra.mono hid_le, rb.mono hid_le, hc.1, hc.2, q _ H (Same.refl H) (.bl _)⟩
  · rw [if_neg hc] at hg
    cases hg⟩
theorem isNon_rep {H : Hp} {v : V} {d : D} (r : Rep K H v d) : decide (v = .non) = isNon d := by
  cases r <;> simp [isNon]
theorem jo_isN : OpJ X K (compareOp .Is) (fun x y H Q => y = .non ∧ Q (.bl (decide (x = .non))) H) dIsN := ⟨op_isN, by
  intro O H x y a b d Q ok ra rb hg q
  unfold dIsN at hg
  by_cases hc : isNon b = true
  · rw [if_pos hc] at hg
    cases hg
    have e : y = .non := of_decide_eq_true (by rw [isNon_rep rb]; exact hc)
    refine ⟨e, q _ H (Same.refl H) ?_⟩
    rw [isNon_rep ra]
    exact .bl _
  · rw [if_neg hc] at hg
    cases hg⟩
theorem RepAll.length {H : Hp} : ∀ {xs : List V} {ds : List D}, RepAll K H xs ds → xs.length = ds.length
  | _, _, .nil => rfl
  | _, _, .cons _ r => by simp [RepAll.length r]
theorem RepAll.get {H : Hp} : ∀ {xs : List V} {ds : List D} {i : Nat} {d : D}, RepAll K H xs ds → ds[i]? = some d → ∃ x, xs[i]? = some x ∧ Rep K H x d
  | _, _, _, _, .nil, e => by simp at e
  | _, _, 0, _, .cons r _, e => by simp at e; subst e; exact ⟨_, rfl, r⟩
  | _, _, i + 1, d, .cons _ t, e => by
    obtain ⟨u, h1, h2⟩ := RepAll.get (i := i) (d := d) t (by simpa using e)
    exact ⟨u, by simpa using h1, h2⟩
theorem RepAll.getX {H : Hp} : ∀ {xs : List V} {ds : List D} {i : Nat} {x : V}, RepAll K H xs ds → xs[i]? = some x → ∃ d, ds[i]? = some d ∧ Rep K H x d
  | _, _, _, _, .nil, e => by simp at e
  | _, _, 0, _, .cons r _, e => by simp at e; subst e; exact ⟨_, rfl, r⟩
  | _, _, i + 1, d, .cons _ t, e => by
    obtain ⟨u, h1, h2⟩ := RepAll.getX (i := i) (x := d) t (by simpa using e)
    exact ⟨u, by simpa using h1, h2⟩
theorem RepAll.atI {H : Hp} {xs : List V} {ds : List D} {i : Int} {d : D} (r : RepAll K H xs ds) (h : L2.atI ds i = some d) : ∃ x, L2.atI xs i = some x ∧ Rep K H x d := by
  unfold L2.atI at h ⊢
  obtain ⟨j, e1, e2⟩ := bind_some' h
  obtain ⟨x, e3, rx⟩ := r.get e2
  exact ⟨x, by rw [r.length, e1]; exact e3, rx⟩
theorem RepAll.set {H : Hp} {x : V} {d : D} (q : Rep K H x d) : ∀ {xs : List V} {ds : List D} (i : Nat), RepAll K H xs ds → RepAll K H (xs.set i x) (ds.set i d)
  | _, _, _, .nil => .nil
  | _, _, 0, .cons _ t => .cons q t
  | _, _, i + 1, .cons p t => .cons p (RepAll.set q i t)
theorem RepAll.append {H : Hp} : ∀ {xs ys : List V} {ds es : List D}, RepAll K H xs ds → RepAll K H ys es → RepAll K H (xs ++ ys) (ds ++ es)
  | _, _, _, _, .nil, s => s
  | _, _, _, _, .cons r t, s => .cons r (RepAll.append t s)
theorem RepAll.take {H : Hp} : ∀ {xs : List V} {ds : List D} (n : Nat), RepAll K H xs ds → RepAll K H (xs.take n) (ds.take n)
  | _, _, 0, _ => .nil
  | _, _, _ + 1, .nil => .nil
  | _, _, n + 1, .cons r t => .cons r (RepAll.take n t)
theorem RepAll.drop {H : Hp} : ∀ {xs : List V} {ds : List D} (n : Nat), RepAll K H xs ds → RepAll K H (xs.drop n) (ds.drop n)
  | _, _, 0, r => r
  | _, _, _ + 1, .nil => .nil
  | _, _, n + 1, .cons _ t => RepAll.drop n t
theorem pur_ix : PuR K (rIx K) dIx := by
  intro O H x y a b d Q ok ra rb hg q
  cases rb with
  | int j =>
    cases ra with
    | lst h r =>
      obtain ⟨v, e, rv⟩ := r.atI hg
      exact .inl ⟨_, _, j, v, rfl, rfl, hid_le.seq h, e, q _ H (Same.refl H) rv⟩
    | tup h r =>
      obtain ⟨v, e, rv⟩ := r.atI hg
      exact .inr (.inl ⟨_, _, j, v, rfl, rfl, hid_le.seqT h, e, q _ H (Same.refl H) rv⟩)
    | str z =>
      have hg' : (if z.length ≤ sizeLine then (L2.atI z.cps.toList j).map fun c => PyData.str ⟨#[c]⟩ else none) = some d := hg
      by_cases hz : z.length ≤ sizeLine
      · rw [if_pos hz] at hg'
        cases e : L2.atI z.cps.toList j with
        | none => rw [e] at hg'; cases hg'
        | some c =>
          rw [e] at hg'
          cases hg'
          exact .inr (.inr ⟨z, j, c, rfl, rfl, hz, e, q _ H (Same.refl H) (.str _)⟩)
      · rw [if_neg hz] at hg'
        cases hg'
    | _ => cases hg
  | _ => cases ra <;> cases hg
theorem je_ix {a b : Expr} {ta tb : TE} {fa fb : PF} {pos : Pos} (hK : X.K = K) (ha : JE X K a ta fa) (hb : JE X K b tb fb) (hs : PlainIx b) : JE X K (.Subscript a b pos) (tOp (rIx K) ta tb) (pOp dIx fa fb) :=
  ⟨by subst hK; exact pe_ix ix_seq ha.pe hb.pe hs, pu_op pur_ix ha.pu hb.pu⟩
theorem je_neg {a : Expr} {ta : TE} {fa : PF} {pos : Pos} (ha : JE X K a ta fa) : JE X K (.UnaryOp .USub a pos) (tUn (rU fun i => .int (-i)) ta) (pUn dNeg fa) := ⟨pe_un un_neg ha.pe, by
  intro O σ H ρ d Q ok er hf q
  obtain ⟨x, e1, hf⟩ := bind_some' hf
  refine ha.pu O σ H ρ x _ ok er e1 fun v H1 s1 r1 => ?_
  cases r1 with
  | int i => cases hf; exact ⟨i, rfl, q _ H1 s1 (.int _)⟩
  | _ => cases hf⟩
section
variable {a b c e : Expr} {rest : List Expr} {ta tb tc t : TE} {tA tB' : TT} {fa fb fc f : PF} {pa pb : PB} {pos : Pos}
theorem jt_val (h : JE X K e t f) (he : ∀ whole, isTrue e X.env whole = (do let v ← whole; standAt e.pos; holding [v] (truthy v)) := by intro _; rfl) : JT X K e (tB t) (pTest f) := ⟨pt_val h.pe he, pu_test h.pu⟩
theorem jt_not (ha : JT X K a tA pa) : JT X K (.UnaryOp .Not a pos) (tNot tA) (pNotT pa) := ⟨pt_not ha.pe, by
  intro O σ H ρ k Q ok er hf q
  cases e1 : pa ρ with
  | none => rw [show pNotT pa ρ = (pa ρ).map (!·) from rfl, e1] at hf; cases hf
  | some x =>
    rw [show pNotT pa ρ = (pa ρ).map (!·) from rfl, e1] at hf
    cases hf
    exact ha.pu O σ H ρ x _ ok er e1 fun H1 s1 => q H1 s1⟩
theorem jw_and1 (ha : JT X K a tA pa) : JW X K (.BoolOp .And [a] pos) tA pa := ⟨pw_and1 ha.pe, ha.pu⟩
theorem jw_or1 (ha : JT X K a tA pa) : JW X K (.BoolOp .Or [a] pos) tA pa := ⟨pw_or1 ha.pe, ha.pu⟩
theorem jw_and (ha : JT X K a tA pa) (hb : JW X K (.BoolOp .And (b :: rest) pos) tB' pb) : JW X K (.BoolOp .And (a :: b :: rest) pos) (tAnd tA tB') (pAndT pa pb) := ⟨pw_and ha.pe hb.pe, by
  intro O σ H ρ k Q ok er hf q
  obtain ⟨x, e1, hf⟩ := bind_some' hf
  refine ha.pu O σ H ρ x _ ok er e1 fun H1 s1 => ?_
  cases x with
  | true =>
    rw [if_pos rfl] at hf ⊢
    exact hb.pu O σ H1 ρ k Q (ok.mono s1) (er.hid s1) hf fun H2 s2 => q H2 (s1.trans s2)
  | false =>
    rw [if_neg Bool.false_ne_true] at hf ⊢
    cases hf
    exact q H1 s1⟩
theorem jw_or (ha : JT X K a tA pa) (hb : JW X K (.BoolOp .Or (b :: rest) pos) tB' pb) : JW X K (.BoolOp .Or (a :: b :: rest) pos) (tOr tA tB') (pOrT pa pb) := ⟨pw_or ha.pe hb.pe, by
  intro O σ H ρ k Q ok er hf q
  obtain ⟨x, e1, hf⟩ := bind_some' hf
  refine ha.pu O σ H ρ x _ ok er e1 fun H1 s1 => ?_
  cases x with
  | true =>
    rw [if_pos rfl] at hf ⊢
    cases hf
    exact q H1 s1
  | false =>
    rw [if_neg Bool.false_ne_true] at hf ⊢
    exact hb.pu O σ H1 ρ k Q (ok.mono s1) (er.hid s1) hf fun H2 s2 => q H2 (s1.trans s2)⟩
theorem JW.jt (h : JW X K e tA pa) : JT X K e tA pa := ⟨h.pe.pt, h.pu⟩
theorem je_one {op} (h : JE X K a ta fa) : JE X K (.BoolOp op [a] pos) ta fa := ⟨pe_one h.pe, h.pu⟩
theorem je_and (ha : JE X K a ta fa) (hb : JE X K (.BoolOp .And (b :: rest) pos) tb fb) : JE X K (.BoolOp .And (a :: b :: rest) pos) (tAndV ta tb) (pAnd fa fb) := ⟨pe_and ha.pe hb.pe, by
  intro O σ H ρ k Q ok er hf q
  obtain ⟨x, e1, hf⟩ := bind_some' hf
  obtain ⟨z, e2, hf⟩ := bind_some' hf
  refine ha.pu O σ H ρ x _ ok er e1 fun v H1 s1 r1 => ⟨z, rep_bool r1 e2, ?_⟩
  cases z with
  | true =>
    rw [if_pos rfl] at hf ⊢
    exact hb.pu O σ H1 ρ k Q (ok.mono s1) (er.hid s1) hf fun v H2 s2 => q v H2 (s1.trans s2)
  | false =>
    rw [if_neg Bool.false_ne_true] at hf ⊢
    cases hf
    exact q _ H1 s1 (.bl _)⟩
theorem je_or (ha : JE X K a ta fa) (hb : JE X K (.BoolOp .Or (b :: rest) pos) tb fb) : JE X K (.BoolOp .Or (a :: b :: rest) pos) (tOrV ta tb) (pOr fa fb) := ⟨pe_or ha.pe hb.pe, by
  intro O σ H ρ k Q ok er hf q
  obtain ⟨x, e1, hf⟩ := bind_some' hf
  obtain ⟨z, e2, hf⟩ := bind_some' hf
  refine ha.pu O σ H ρ x _ ok er e1 fun v H1 s1 r1 => ⟨z, rep_bool r1 e2, ?_⟩
  cases z with
  | true =>
    rw [if_pos rfl] at hf ⊢
    cases hf
    exact q _ H1 s1 (.bl _)
  | false =>
    rw [if_neg Bool.false_ne_true] at hf ⊢
    exact hb.pu O σ H1 ρ k Q (ok.mono s1) (er.hid s1) hf fun v H2 s2 => q v H2 (s1.trans s2)⟩
theorem je_not (ha : JE X K a ta fa) : JE X K (.UnaryOp .Not a pos) (tNotV ta) (pNot fa) := ⟨pe_not ha.pe, by
  intro O σ H ρ k Q ok er hf q
  obtain ⟨x, e1, hf⟩ := bind_some' hf
  obtain ⟨z, e2, hf⟩ := bind_some' hf
  cases hf
  exact ha.pu O σ H ρ x _ ok er e1 fun v H1 s1 r1 => ⟨z, rep_bool r1 e2, q _ H1 s1 (.bl _)⟩⟩
end
section
variable {e : Expr} {es : List Expr} {te : TE} {t : TA} {f : PF} {r : PAs} {pos : Pos}
theorem ja_nil : JA X K [] tNil pNil := ⟨pa_nil, by
  intro O σ H ρ ds Q ok er hf q
  cases hf
  exact q [] H (Same.refl H) .nil⟩
theorem ja_cons (ha : JE X K e te f) (hr : JA X K es t r) (hs : starEach (e :: es) X.env = (false, eval e X.env) :: starEach es X.env := by rfl) : JA X K (e :: es) (tCons te t) (pCons f r) := ⟨pa_cons ha.pe hr.pe hs, by
  intro O σ H ρ ds Q ok er hf q
  obtain ⟨x, e1, hf⟩ := bind_some' hf
  obtain ⟨xs, e2, hf⟩ := bind_some' hf
  cases hf
  refine ha.pu O σ H ρ x _ ok er e1 fun v H1 s1 r1 => ?_
  exact hr.pu O σ H1 ρ xs _ (ok.mono s1) (er.hid s1) e2 fun vs H2 s2 r2 => q (v :: vs) H2 (s1.trans s2) (.cons (r1.hid s2) r2)⟩
theorem fits_le {n : Nat} (h : fits n = true) : n ≤ sizeLine := Nat.le_of_lt (of_decide_eq_true h)
theorem je_tup {x1} (h : JA X K es t r) : JE X K (.Tuple es x1 pos) (tTup t) (pTup r) := ⟨pe_tup h.pe, by
  intro O σ H ρ d Q ok er hf q
  obtain ⟨xs, e1, hf⟩ := bind_some' hf
  by_cases hc : fits xs.length = true
  · rw [if_pos hc] at hf
    cases hf
    refine h.pu O σ H ρ xs _ ok er e1 fun vs H1 s1 r1 => ⟨by rw [r1.length]; exact fits_le hc, fun p hp => ?_⟩
    have sn : Same H1 (upd H1 p (.tup vs)) := Same.new hp
    refine q _ _ (s1.trans sn) (.tup (SqT.of ?_) (r1.hid sn))
    rw [hid_out ((ok.mono s1).fresh hp)]
    exact upd_same
  · rw [if_neg hc] at hf
    cases hf⟩
theorem jl_lst (h : JA X K es t r) : JL X K (.List es pos) (tLst t) (pLst r) := ⟨pe_lst h.pe, by
  intro O σ H ρ d Q ok er hf q
  obtain ⟨xs, e1, hf⟩ := bind_some' hf
  by_cases hc : fits xs.length = true
  · rw [if_pos hc] at hf
    obtain rfl : xs = d := Option.some.inj hf
    refine h.pu O σ H ρ xs _ ok er e1 fun vs H1 s1 r1 => ⟨by rw [r1.length]; exact fits_le hc, fun p hp => ?_⟩
    have sn : Same H1 (upd H1 p (.lst vs)) := Same.new hp
    refine q p vs _ (s1.trans sn) (s1.free hp) upd_same ?_
    exact r1.mono (hid_new hp)
  · rw [if_neg hc] at hf
    cases hf⟩
end
end
def spF (K : PySem.W.Frag) (n : Nat) (f : List D → Option D) : Sp := fun vs H Q _ => vs.length = n ∧ ∃ (O : List Addr) (ds : List D) (d : D), OkO O H ∧ RepAll K (hid O H) vs ds ∧ f ds = some d ∧ ∀ v H', Same H H' → Rep K (hid O H') v d → Q v H'
def spL (K : PySem.W.Frag) (n : Nat) (f : List D → Option (List D)) : Sp := fun vs H Q _ => vs.length = n ∧ ∃ (O : List Addr) (ds es : List D), OkO O H ∧ RepAll K (hid O H) vs ds ∧ f ds = some es ∧
  ∀ a xs H', Same H H' → H a = none → H' a = some (.lst xs) → RepAll K (hid (a :: O) H') xs es → Q (.ref a) H'
def Takes (n : Nat) {α : Type} (f : List D → Option α) : Prop := ∀ ds a, f ds = some a → ds.length = n
section
variable {X : Cx} {K : PySem.W.Frag} {k n : Nat} {x : Str} {ps : List Str} {p pos : Pos} {e : Expr} {es : List Expr} {t : TA} {r : PAs}
theorem je_callC {f : List D → Option D} (C : Callee X.prog X.w X.K X.mg X.base k x ps (spF K n f)) (hf : Takes n f) (hr : Room k X.A) (hg : Gl X x) (ha : JA X K (e :: es) t r) (hdb : (x == ("__debug__" : Str)) = false := by decide)
    (hst : starEach (e :: es) X.env = (false, eval e X.env) :: starEach es X.env := by rfl) (hpl : (backTo pos (starEach es X.env)).any (·.1) = false := by rfl) : JE X K (.Call (.Name x p) (e :: es) [] pos) (tCall (spF K n f) [] E0 t) (pCall f r) := ⟨pe_callC C hr hg ha.pe hdb hst hpl, by
  intro O σ H ρ d Q ok er h q
  obtain ⟨ds, e1, h⟩ := bind_some' h
  refine ha.pu O σ H ρ ds _ ok er e1 fun vs H1 s1 r1 => ?_
  rw [List.append_nil]
  exact ⟨by rw [r1.length]; exact hf ds d h, O, ds, d, ok.mono s1, r1, h, fun v H' s' rv => q v H' (s1.trans s') rv⟩⟩
theorem jl_callC {f : List D → Option (List D)} (C : Callee X.prog X.w X.K X.mg X.base k x ps (spL K n f)) (hf : Takes n f) (hr : Room k X.A) (hg : Gl X x) (ha : JA X K (e :: es) t r) (hdb : (x == ("__debug__" : Str)) = false := by decide)
    (hst : starEach (e :: es) X.env = (false, eval e X.env) :: starEach es X.env := by rfl) (hpl : (backTo pos (starEach es X.env)).any (·.1) = false := by rfl) : JL X K (.Call (.Name x p) (e :: es) [] pos) (tCall (spL K n f) [] E0 t) (pCallL f r) := ⟨pe_callC C hr hg ha.pe hdb hst hpl, by
  intro O σ H ρ d Q ok er h q
  obtain ⟨ds, e1, h⟩ := bind_some' h
  refine ha.pu O σ H ρ ds _ ok er e1 fun vs H1 s1 r1 => ?_
  rw [List.append_nil]
  exact ⟨by rw [r1.length]; exact hf ds d h, O, ds, d, ok.mono s1, r1, h, fun a xs H' s' hn ha' rv => q a xs H' (s1.trans s') (s1.free hn) ha' rv⟩⟩
theorem je_callB {id : String} {rc : List V → Hp → VK → Prop} {g : List D → Option D} (hc : CallJ X K (.builtin id) rc g) (hg : Gl X x) (hm : X.mg x = none) (hv : bootBuiltins x = some (.builtin id)) (ha : JA X K (e :: es) t r) (hn : x ≠ "__name__" := by decide) (hdb : (x == ("__debug__" : Str)) = false := by decide)
    (he : starEach (e :: es) X.env = (false, eval e X.env) :: starEach es X.env := by rfl) (hpl : (backTo pos (starEach es X.env)).any (·.1) = false := by rfl) : JE X K (.Call (.Name x p) (e :: es) [] pos) (tCB rc t) (pCall g r) := ⟨pe_callB hc.pe hg hm hv ha.pe hn hdb he hpl, by
  intro O σ H ρ d Q ok er h q
  obtain ⟨ds, e1, h⟩ := bind_some' h
  exact ha.pu O σ H ρ ds _ ok er e1 fun vs H1 s1 r1 => hc.pu O H1 vs ds d Q (ok.mono s1) r1 h fun v H' s' rv => q v H' (s1.trans s') rv⟩
theorem je_callTy {T : String} {rc : List V → Hp → VK → Prop} {g : List D → Option D} (hc : CallJ X K (.type T) rc g) (hg : Gl X x) (hm : X.mg x = none) (hv : bootBuiltins x = some (.type T)) (ha : JA X K (e :: es) t r) (hn : x ≠ "__name__" := by decide) (hdb : (x == ("__debug__" : Str)) = false := by decide)
    (he : starEach (e :: es) X.env = (false, eval e X.env) :: starEach es X.env := by rfl) (hpl : (backTo pos (starEach es X.env)).any (·.1) = false := by rfl) : JE X K (.Call (.Name x p) (e :: es) [] pos) (tCB rc t) (pCall g r) := ⟨pe_callTy hc.pe hg hm hv ha.pe hn hdb he hpl, by
  intro O σ H ρ d Q ok er h q
  obtain ⟨ds, e1, h⟩ := bind_some' h
  exact ha.pu O σ H ρ ds _ ok er e1 fun vs H1 s1 r1 => hc.pu O H1 vs ds d Q (ok.mono s1) r1 h fun v H' s' rv => q v H' (s1.trans s') rv⟩
theorem jl_callTy {T : String} {rc : List V → Hp → VK → Prop} {g : List D → Option (List D)} (hc : CallJL X K (.type T) rc g) (hg : Gl X x) (hm : X.mg x = none) (hv : bootBuiltins x = some (.type T)) (ha : JA X K (e :: es) t r) (hn : x ≠ "__name__" := by decide) (hdb : (x == ("__debug__" : Str)) = false := by decide)
    (he : starEach (e :: es) X.env = (false, eval e X.env) :: starEach es X.env := by rfl) (hpl : (backTo pos (starEach es X.env)).any (·.1) = false := by rfl) : JL X K (.Call (.Name x p) (e :: es) [] pos) (tCB rc t) (pCallL g r) := ⟨pe_callTy hc.pe hg hm hv ha.pe hn hdb he hpl, by
  intro O σ H ρ d Q ok er h q
  obtain ⟨ds, e1, h⟩ := bind_some' h
  exact ha.pu O σ H ρ ds _ ok er e1 fun vs H1 s1 r1 => hc.pu O H1 vs ds d Q (ok.mono s1) r1 h fun a xs H' s' hn2 ha2 rv => q a xs H' (s1.trans s') (s1.free hn2) ha2 rv⟩
end
end L2
set_option maxHeartbeats 4000000
namespace L2
open PySem PySem.Spec PyProof.Rows
section
variable {X : Cx} {K : PySem.W.Frag}
def gLen : List D → Option D
  | [.list ds] => some (.int ds.length)
  | [.tuple ds] => some (.int ds.length)
  | _ => none
def gList : List D → Option (List D)
  | [.list ds] => some ds
  | [.tuple ds] => some ds
  | _ => none
def unB : List D → Option (List Bool)
  | [] => some []
  | .bool b :: r => (unB r).bind fun bs => some (b :: bs)
  | _ => none
def gAll : List D → Option D
  | [.list ds] => (unB ds).bind fun bs => some (.bool (bs.all id))
  | _ => none
def gMax : List D → Option D
  | [.int i, .int j] => some (.int (max i j))
  | _ => none
def gMin : List D → Option D
  | [.int i, .int j] => some (.int (min i j))
  | _ => none
def gInt : List D → Option D
  | [.int i] => some (.int i)
  | [.bool b] => some (.int (if b then 1 else 0))
  | _ => none
theorem rep1 {H : Hp} {vs : List V} {d : D} (r : RepAll K H vs [d]) : ∃ v, vs = [v] ∧ Rep K H v d := by
  cases r with
  | cons a b => cases b; exact ⟨_, rfl, a⟩
theorem rep2 {H : Hp} {vs : List V} {d e : D} (r : RepAll K H vs [d, e]) : ∃ v u, vs = [v, u] ∧ Rep K H v d ∧ Rep K H u e := by
  cases r with
  | cons a b =>
    obtain ⟨u, e1, r2⟩ := rep1 b
    exact ⟨_, u, by rw [e1], a, r2⟩
theorem jc_len (hK : X.K = K) : CallJ X K (.builtin "len") (fun xs H Q => ∃ p ys, xs = [.ref p] ∧ (SqL K H p ys ∨ SqT K H p ys) ∧ Q (.int ys.length) H) gLen := ⟨by subst hK; exact call_len_seq, by
  intro O H vs ds d Q ok r hg q
  unfold gLen at hg
  split at hg
  · rename_i es
    cases hg
    obtain ⟨v, rfl, r1⟩ := rep1 r
    cases r1 with
    | lst h r' => exact ⟨_, _, rfl, .inl (hid_le.seq h), by rw [r'.length]; exact q _ H (Same.refl H) (.int _)⟩
  · rename_i es
    cases hg
    obtain ⟨v, rfl, r1⟩ := rep1 r
    cases r1 with
    | tup h r' => exact ⟨_, _, rfl, .inr (hid_le.seqT h), by rw [r'.length]; exact q _ H (Same.refl H) (.int _)⟩
  · cases hg⟩
theorem jc_list (hK : X.K = K) : CallJL X K (.type "list") (fun xs H Q => ∃ p ys, xs = [.ref p] ∧ (SqL K H p ys ∨ SqT K H p ys) ∧ ∀ l, H l = none → Q (.ref l) (upd H l (.lst ys))) gList := ⟨by subst hK; exact call_list_of, by
  intro O H vs ds d Q ok r hg q
  unfold gList at hg
  split at hg
  · rename_i es
    cases hg
    obtain ⟨v, rfl, r1⟩ := rep1 r
    cases r1 with
    | lst h r' => exact ⟨_, _, rfl, .inl (hid_le.seq h), fun l hl => q l _ _ (Same.new hl) hl upd_same (r'.mono (hid_new hl))⟩
  · rename_i es
    cases hg
    obtain ⟨v, rfl, r1⟩ := rep1 r
    cases r1 with
    | tup h r' => exact ⟨_, _, rfl, .inr (hid_le.seqT h), fun l hl => q l _ _ (Same.new hl) hl upd_same (r'.mono (hid_new hl))⟩
  · cases hg⟩
theorem unB_rep {H : Hp} : ∀ {vs : List V} {ds : List D} {bs : List Bool}, RepAll K H vs ds → unB ds = some bs → vs = bs.map V.bl
  | _, _, _, .nil, h => by cases h; rfl
  | _, _, _, .cons (.bl b) t, h => by
    obtain ⟨bs, e, h⟩ := bind_some' h
    cases h
    rw [unB_rep t e]
    rfl
  | _, _, _, .cons .non t, h => by cases h
  | _, _, _, .cons (.int _) t, h => by cases h
  | _, _, _, .cons (.str _) t, h => by cases h
  | _, _, _, .cons (.lst _ _) t, h => by cases h
  | _, _, _, .cons (.tup _ _) t, h => by cases h
theorem jc_all (hK : X.K = K) (hh : X.A.handled = none) : CallJ X K (.builtin "all") (fun xs H Q => ∃ (a : Addr) (bs : List Bool), xs = [.ref a] ∧ SqL K H a (bs.map V.bl) ∧ Q (.bl (bs.all id)) H) gAll := ⟨by
  subst hK
  intro pins s σ H xs us Q I r h
  exact call_all pins s σ H xs us Q I r ⟨hh, h⟩, by
  intro O H vs ds d Q ok r hg q
  unfold gAll at hg
  split at hg
  · rename_i es
    obtain ⟨bs, e, hg⟩ := bind_some' hg
    cases hg
    obtain ⟨v, rfl, r1⟩ := rep1 r
    cases r1 with
    | lst h r' =>
      have e2 := unB_rep r' e
      subst e2
      exact ⟨_, bs, rfl, hid_le.seq h, q _ H (Same.refl H) (.bl _)⟩
  · cases hg⟩
theorem jc_max (hc : X.calm = true) : CallJ X K (.builtin "max") (fun xs H Q => ∃ i j, xs = [.int i, .int j] ∧ Q (.int (if j > i then j else i)) H) gMax := ⟨call_max2 hc, by
  intro O H vs ds d Q ok r hg q
  unfold gMax at hg
  split at hg
  · rename_i i j
    cases hg
    obtain ⟨v, u, rfl, r1, r2⟩ := rep2 r
    cases r1
    cases r2
    refine ⟨i, j, rfl, ?_⟩
    have e : (if j > i then j else i) = max i j := by omega
    rw [e]
    exact q _ H (Same.refl H) (.int _)
  · cases hg⟩
theorem jc_int : CallJ X K (.type "int") (fun xs H Q => (∃ i, xs = [.int i] ∧ Q (.int i) H) ∨ ∃ k, xs = [.bl k] ∧ Q (.int (if k then 1 else 0)) H) gInt := ⟨call_int1, by
  intro O H vs ds d Q ok r hg q
  unfold gInt at hg
  split at hg
  · rename_i i
    cases hg
    obtain ⟨v, rfl, r1⟩ := rep1 r
    cases r1
    exact .inl ⟨i, rfl, q _ H (Same.refl H) (.int _)⟩
  · rename_i b
    cases hg
    obtain ⟨v, rfl, r1⟩ := rep1 r
    cases r1
    exact .inr ⟨b, rfl, q _ H (Same.refl H) (.int _)⟩
  · cases hg⟩
def tyD : D → String
  | .none => "NoneType"
  | .bool _ => "bool"
  | .int _ => "int"
  | .str _ => "str"
  | .list _ => "list"
  | .tuple _ => "tuple"
  | .dict _ => "dict"
def pIsi (U : String) (f : PF) : PF := fun ρ => (f ρ).bind fun d => some (.bool (subT (tyD d) U))
theorem isi_rep {pins : List (Addr × Obj)} {σ : St} {H : Hp} {s : Shared} {Q : Value → Shared → Prop} {E : Value → Shared → Prop} {A : Around} {x : V} {u : Value} {d : D} {U : String} (I : Inv X pins σ H s) (r : Rep X.K H x d) (rx : RelV x u) (hU : U ∈ ["bool", "int", "str", "list", "tuple"])
    (h : ∀ tk, Q (.bool (subT (tyD d) U)) { s with toks := tk }) : wpAny (model X.prog X.w) A (call (.builtin "isinstance") [u, .type U]) Q E s := by
  cases r with
  | non => exact isinst_ok I rx .non (kit_of X.K "NoneType" U (by simp) hU) h
  | bl b => exact isinst_ok I rx (.bl b) (kit_of X.K "bool" U (by simp) hU) h
  | int i => exact isinst_ok I rx (.int i) (kit_of X.K "int" U (by simp) hU) h
  | str i => exact isinst_ok I rx (.str i) (kit_of X.K "str" U (by simp) hU) h
  | lst q r' =>
    cases rx
    obtain ⟨its, _, pl, _⟩ := I.list q
    exact PySem.W.kia_one PySem.W.kitx_list I.kIn pl.isList.typeIs (kit_of X.K "list" U (by simp) hU) (fun z => nomatch z) h
  | tup q r' =>
    cases rx
    obtain ⟨its, _, pl, _⟩ := I.tuple q
    exact PySem.W.kia_one PySem.W.kitx_tuple I.kIn pl.typeIs (kit_of X.K "tuple" U (by simp) hU) (fun z => nomatch z) h
  | dic e => exact isinst_ok I rx (.dK e) (kit_of X.K "dict" U (by simp) hU) h
theorem call_isiD (K : PySem.W.Frag) (hK : X.K = K) : CallR X (.builtin "isinstance") (fun xs H Q => ∃ x d U, xs = [x, .ty U] ∧ Rep K H x d ∧ U ∈ ["bool", "int", "str", "list", "tuple"] ∧ Q (.bl (subT (tyD d) U)) H) := by
  subst hK
  intro pins s σ H xs us Q I r h
  obtain ⟨x, d, U, rfl, rd, hU, q⟩ := h
  obtain ⟨u, u', rfl, rx, ry⟩ := vals2 r
  obtain rfl : u' = Value.type U := ry
  exact isi_rep I rd rx hU fun tk => ⟨.bl _, H, I.tok tk, rfl, q⟩
theorem je_isi {e : Expr} {te : TE} {f : PF} {p p2 pos : Pos} {y : Str} (U : String) (hK : X.K = K) (hU : U ∈ ["bool", "int", "str", "list", "tuple"]) (hg : Gl X "isinstance") (hm : X.mg "isinstance" = none) (hg2 : Gl X y) (hm2 : X.mg y = none) (hv2 : bootBuiltins y = some (.type U)) (ha : JE X K e te f) (hn : y ≠ "__name__" := by decide) (hd : (y == ("__debug__" : Str)) = false := by decide)
    (he : starEach [e, .Name y p2] X.env = (false, eval e X.env) :: starEach [.Name y p2] X.env := by rfl) (he2 : starEach [.Name y p2] X.env = (false, eval (.Name y p2) X.env) :: starEach [] X.env := by rfl) (hpl : (backTo pos (starEach [.Name y p2] X.env)).any (·.1) = false := by rfl) :
    JE X K (.Call (.Name "isinstance" p) [e, .Name y p2] [] pos) (tCB (fun xs H Q => ∃ x d U, xs = [x, .ty U] ∧ Rep K H x d ∧ U ∈ ["bool", "int", "str", "list", "tuple"] ∧ Q (.bl (subT (tyD d) U)) H) (tCons te (tCons (tC (.ty U)) tNil))) (pIsi U f) :=
  ⟨pe_callB (call_isiD K hK) hg hm boot_isinstance (pa_cons ha.pe (pa_cons (pe_bltn hg2 hm2 hv2 rfl hn hd) pa_nil he2) he) (by decide) (by decide) he hpl, by
  intro O σ H ρ d Q ok er h q
  obtain ⟨x, e1, h⟩ := bind_some' h
  cases h
  refine ha.pu O σ H ρ x _ ok er e1 fun v H1 s1 r1 => ?_
  exact ⟨v, x, U, rfl, r1.mono hid_le, hU, q _ H1 s1 (.bl _)⟩⟩
def PuO (K : PySem.W.Frag) (t : TO) (f : PEnv → Option (Option Int)) : Prop := ∀ (O : List Addr) (σ : St) (H : Hp) (ρ : PEnv) (b : Option Int) (Q : Option Int → Hp → Prop), OkO O H → EnvR K (hid O H) σ ρ → f ρ = some b →
  (∀ H', Same H H' → Q b H') → t σ H Q
structure JO (X : Cx) (K : PySem.W.Frag) (e : Option Expr) (t : TO) (f : PEnv → Option (Option Int)) : Prop where
  pe : PO X e t
  pu : PuO K t f
def asI : D → Option Int
  | .int i => some i
  | _ => none
def pNoPart : PEnv → Option (Option Int) := fun _ => some none
def pPart (f : PF) : PEnv → Option (Option Int) := fun ρ => (f ρ).bind fun d => (asI d).bind fun i => some (some i)
theorem jo_none : JO X K none tNoPart pNoPart := ⟨po_none, by
  intro O σ H ρ b Q ok er h q
  cases h
  exact q H (Same.refl H)⟩
theorem jo_some {e : Expr} {te : TE} {f : PF} (h : JE X K e te f) : JO X K (some e) (tPart te) (pPart f) := ⟨po_some h.pe, by
  intro O σ H ρ b Q ok er hf q
  obtain ⟨x, e1, hf⟩ := bind_some' hf
  obtain ⟨i, e2, hf⟩ := bind_some' hf
  cases hf
  refine h.pu O σ H ρ x _ ok er e1 fun v H1 s1 r1 => ?_
  cases r1 with
  | int j => cases e2; exact ⟨_, rfl, q H1 s1⟩
  | _ => cases e2⟩
def cutD (xs : List D) (lo hi : Option Int) : List D := (xs.drop (HT.sIx xs.length 0 lo)).take (HT.sIx xs.length xs.length hi - HT.sIx xs.length 0 lo)
theorem RepAll.cut {H : Hp} {xs : List V} {ds : List D} (r : RepAll K H xs ds) (lo hi : Option Int) : RepAll K H (cutV xs lo hi) (cutD ds lo hi) := by
  unfold cutV cutD
  rw [r.length]
  exact (r.drop _).take _
def asL : D → Option (List D)
  | .list ds => some ds
  | _ => none
def asT : D → Option (List D)
  | .tuple ds => some ds
  | _ => none
def pSl (f : PF) (l u : PEnv → Option (Option Int)) : PAs := fun ρ => (f ρ).bind fun d => (l ρ).bind fun lo => (u ρ).bind fun hi => (asL d).bind fun ds => some (cutD ds lo hi)
theorem jl_slice {e : Expr} {te : TE} {f : PF} {lo hi : Option Expr} {tl th : TO} {fl fh : PEnv → Option (Option Int)} {p2 pos : Pos} (hK : X.K = K) (he : JE X K e te f) (hl : JO X K lo tl fl) (hu : JO X K hi th fh) :
    JL X K (.Subscript e (.Slice lo hi none p2) pos) (tSl (rSlL K) te tl th) (pSl f fl fh) := ⟨by subst hK; exact pe_slice sl_list he.pe hl.pe hu.pe, by
  intro O σ H ρ ds Q ok er hf q
  obtain ⟨x, e1, hf⟩ := bind_some' hf
  obtain ⟨l, e2, hf⟩ := bind_some' hf
  obtain ⟨u, e3, hf⟩ := bind_some' hf
  obtain ⟨es, e4, hf⟩ := bind_some' hf
  cases hf
  refine he.pu O σ H ρ x _ ok er e1 fun v H1 s1 r1 => ?_
  refine hl.pu O σ H1 ρ l _ (ok.mono s1) (er.hid s1) e2 fun H2 s2 => ?_
  refine hu.pu O σ H2 ρ u _ ((ok.mono s1).mono s2) (er.hid (s1.trans s2)) e3 fun H3 s3 => ?_
  have r3 := r1.hid (s2.trans s3)
  cases r3 with
  | lst h r' =>
    cases e4
    refine ⟨_, _, rfl, hid_le.seq h, fun p hp => ?_⟩
    have s03 := (s1.trans s2).trans s3
    exact q p _ _ (s03.trans (Same.new hp)) (s03.free hp) upd_same ((r'.cut l u).mono (hid_new hp))
  | _ => cases e4⟩
def rCatS (K : PySem.W.Frag) : R2 := fun x y H Q => ∃ l b xs zs, x = .ref l ∧ y = .ref b ∧ SqL K H l xs ∧ SqL K H b zs ∧ xs.length + zs.length ≤ sizeLine ∧ ∀ p, H p = none → Q (.ref p) (upd H p (.lst (xs ++ zs)))
theorem op_catS : OpR X (binaryOp .Add) (rCatS X.K) := by
  intro pins s σ H x y v u Q I rx ry h
  obtain ⟨l, b, xs, zs, rfl, rfl, hH, hB, hz, q⟩ := h
  cases rx
  cases ry
  obtain ⟨its, r, pl, hl⟩ := I.list hH
  obtain ⟨its2, r2, pl2, hl2⟩ := I.list hB
  obtain ⟨⟨cls, dd, data, sl⟩, n, ho, hc, hd, hs⟩ := pl
  obtain ⟨⟨cls2, dd2, data2, sl2⟩, n2, ho2, hc2, hd2, hs2⟩ := pl2
  simp only at hc hd hs hc2 hd2 hs2
  subst hc hd hs hc2 hd2 hs2
  have e : its.toArray ++ its2.toArray = (its ++ its2).toArray := by simp
  refine concat_meets ⟨_, ho, rfl⟩ ⟨_, ho2, rfl⟩ noFill_list_add seq_list_add PySem.F.slot_list_add PySem.F.entry_list_add (PySem.F.args_list_add_2 _ _) (list_addW l b its.toArray its2.toArray n n2 none none sl sl2 (by have := r.length; have := r2.length; simp; omega)) ⟨ho, ho2, ?_⟩
  rw [e]
  exact ⟨.ref _, _, I.lnew (t' := s.toks) (r.append r2) (by rw [List.length_append]; omega), rfl, q _ I.fresh⟩
def pCat (a b : PF) : PAs := fun ρ => (a ρ).bind fun x => (b ρ).bind fun y => (asL x).bind fun xs => (asL y).bind fun ys => if fits (xs.length + ys.length) = true then some (xs ++ ys) else none
theorem jl_cat {a b : Expr} {ta tb : TE} {fa fb : PF} {pos : Pos} (hK : X.K = K) (ha : JE X K a ta fa) (hb : JE X K b tb fb) : JL X K (.BinOp a .Add b pos) (tOp (rCatS K) ta tb) (pCat fa fb) := ⟨by subst hK; exact pe_op op_catS ha.pe hb.pe, by
  intro O σ H ρ ds Q ok er hf q
  obtain ⟨x, e1, hf⟩ := bind_some' hf
  obtain ⟨y, e2, hf⟩ := bind_some' hf
  obtain ⟨xs, e3, hf⟩ := bind_some' hf
  obtain ⟨ys, e4, hf⟩ := bind_some' hf
  by_cases hc : fits (xs.length + ys.length) = true
  · rw [if_pos hc] at hf
    cases hf
    refine ha.pu O σ H ρ x _ ok er e1 fun v H1 s1 r1 => ?_
    refine hb.pu O σ H1 ρ y _ (ok.mono s1) (er.hid s1) e2 fun u H2 s2 r2 => ?_
    have r1' := r1.hid s2
    cases r1' with
    | lst h r' =>
      cases e3
      cases r2 with
      | lst h2 r2' =>
        cases e4
        refine ⟨_, _, _, _, rfl, rfl, hid_le.seq h, hid_le.seq h2, by rw [r'.length, r2'.length]; exact fits_le hc, fun p hp => ?_⟩
        have s02 := s1.trans s2
        exact q p _ _ (s02.trans (Same.new hp)) (s02.free hp) upd_same ((r'.append r2').mono (hid_new hp))
      | _ => cases e4
    | _ => cases e3
  · rw [if_neg hc] at hf
    cases hf⟩
end
end L2
set_option maxHeartbeats 4000000
namespace L2
open PySem PySem.Spec PyProof.Rows
def ItOk (K : PySem.W.Frag) (G : Hp) (J : It) (items : List D) : Prop := ∀ (Oc : List Addr) (H' : Hp), OkO Oc H' → Same G (hid Oc H') →
  (∀ i, i < items.length → J.go i H') ∧ (∀ i x H'', i < items.length → J.yld i H' x H'' → ∃ d, items[i]? = some d ∧ Same H' H'' ∧ Rep K (hid Oc H'') x d) ∧ J.stop items.length H'
def PuI (K : PySem.W.Frag) (wi : TI) (f : PAs) : Prop := ∀ (O : List Addr) (σ : St) (H : Hp) (ρ : PEnv) (items : List D) (R : It → Hp → Prop), OkO O H → EnvR K (hid O H) σ ρ → f ρ = some items →
  (∀ J H1, Same H H1 → ItOk K (hid O H1) J items → R J H1) → wi σ H R
structure JI (X : Cx) (K : PySem.W.Frag) (tg e : Expr) (wi : TI) (f : PAs) : Prop where
  pe : PI X tg e wi
  pu : PuI K wi f
def pItL (f : PF) : PAs := fun ρ => (f ρ).bind asL
def pItT (f : PF) : PAs := fun ρ => (f ρ).bind asT
def rangeD (lo : Int) (n : Nat) : List D := (List.range n).map fun i => .int (lo + (i : Nat))
def gRange1 : List D → Option (List D)
  | [.int j] => if -(2 ^ 62) ≤ j ∧ j < 2 ^ 62 then some (rangeD 0 j.toNat) else none
  | _ => none
def enumD (ds : List D) : List D := ds.zipIdx.map fun p => .tuple [.int (p.2 : Nat), p.1]
def gEnum : List D → Option (List D)
  | [.list ds] => some (enumD ds)
  | _ => none
def zipD (xs ys : List D) : List D := List.zipWith (fun a b => .tuple [a, b]) xs ys
def gZip : List D → Option (List D)
  | [.list xs, .list ys] => some (zipD xs ys)
  | _ => none
section
variable {X : Cx} {K : PySem.W.Frag} {tg : Expr}
theorem itok_list {G : Hp} {a : Addr} {xs : List V} {ds : List D} (h : SqL K G a xs) (r : RepAll K G xs ds) : ItOk K G (Itl K a) ds := by
  intro Oc H' ok s
  have hq : SqL K H' a xs := (s.trans hid_le).seq h
  have hl := r.length
  refine ⟨fun i hi => ⟨xs, xs[i], hq, by simp [show i < xs.length by omega]⟩, fun i x H'' hi y => ?_, ⟨xs, hq, by omega⟩⟩
  obtain ⟨e, y⟩ := y
  subst e
  obtain ⟨d, e, rd⟩ := r.getX (y xs hq)
  exact ⟨d, e, Same.refl _, rd.mono s⟩
theorem rangeD_len (lo : Int) (n : Nat) : (rangeD lo n).length = n := by simp [rangeD]
theorem rangeD_get {lo : Int} {n i : Nat} (h : i < n) : (rangeD lo n)[i]? = some (.int (lo + (i : Nat))) := by simp [rangeD, h]
theorem itok_range {G : Hp} {lo : Int} {n : Nat} : ItOk K G (Itr lo n) (rangeD lo n) := by
  intro Oc H' ok s
  rw [rangeD_len]
  refine ⟨fun i hi => hi, fun i x H'' hi y => ?_, Nat.le_refl _⟩
  obtain ⟨e, y⟩ := y
  subst e y
  exact ⟨_, rangeD_get hi, Same.refl _, .int _⟩
theorem enumD_get {ds : List D} {i : Nat} {d : D} (h : ds[i]? = some d) : (enumD ds)[i]? = some (.tuple [.int (i : Nat), d]) := by
  unfold enumD
  rw [List.getElem?_map, List.getElem?_zipIdx, h]
  simp
theorem itok_enum {G : Hp} {a : Addr} {xs : List V} {ds : List D} (h : SqL K G a xs) (r : RepAll K G xs ds) : ItOk K G (Ite K a) (enumD ds) := by
  intro Oc H' ok s
  have hq : SqL K H' a xs := (s.trans hid_le).seq h
  have hl := r.length
  have hn : (enumD ds).length = ds.length := by simp [enumD]
  rw [hn]
  refine ⟨fun i hi => ⟨xs, xs[i], hq, by simp [show i < xs.length by omega]⟩, fun i x H'' hi y => ?_, ⟨xs, hq, by omega⟩⟩
  obtain ⟨p, z, hp, rfl, rfl, y⟩ := y
  obtain ⟨d, e, rd⟩ := r.getX (y xs hq)
  have sn : Same H' (upd H' p (.tup [.int i, z])) := Same.new hp
  refine ⟨_, enumD_get e, sn, .tup (SqT.of ?_) (.cons (.int _) (.cons ((rd.mono s).hid sn) .nil))⟩
  rw [hid_out (ok.fresh hp)]
  exact upd_same
theorem itok_zip {G : Hp} {a b : Addr} {xs ys : List V} {ds es : List D} (h : SqL K G a xs) (r : RepAll K G xs ds) (h2 : SqL K G b ys) (r2 : RepAll K G ys es) : ItOk K G (Itz K a b) (zipD ds es) := by
  intro Oc H' ok s
  have hq : SqL K H' a xs := (s.trans hid_le).seq h
  have hq2 : SqL K H' b ys := (s.trans hid_le).seq h2
  have hl := r.length
  have hl2 := r2.length
  have hn : (zipD ds es).length = min ds.length es.length := by simp [zipD]
  rw [hn]
  refine ⟨fun i hi => ⟨xs, ys, xs[i], ys[i], hq, hq2, by simp [show i < xs.length by omega], by simp [show i < ys.length by omega]⟩, fun i x H'' hi y => ?_, ⟨xs, ys, hq, hq2, by omega⟩⟩
  obtain ⟨p, u, z, hp, rfl, rfl, y1, y2⟩ := y
  obtain ⟨d, e, rd⟩ := r.getX (y1 xs hq)
  obtain ⟨d2, e2, rd2⟩ := r2.getX (y2 ys hq2)
  have sn : Same H' (upd H' p (.tup [u, z])) := Same.new hp
  refine ⟨.tuple [d, d2], ?_, sn, .tup (SqT.of ?_) (.cons ((rd.mono s).hid sn) (.cons ((rd2.mono s).hid sn) .nil))⟩
  · unfold zipD
    rw [List.getElem?_zipWith, e, e2]
  · rw [hid_out (ok.fresh hp)]
    exact upd_same
theorem ji_list {l : Expr} {tl : TE} {f : PF} (hK : X.K = K) (h : JE X K l tl f) : JI X K tg l (iList K tl) (pItL f) := ⟨by subst hK; exact pi_list h.pe, by
  intro O σ H ρ items R ok er hf q
  obtain ⟨x, e1, hf⟩ := bind_some' hf
  refine h.pu O σ H ρ x _ ok er e1 fun v H1 s1 r1 => ?_
  cases r1 with
  | lst hq r' => cases hf; exact ⟨_, rfl, ⟨_, hid_le.seq hq⟩, q _ H1 s1 (itok_list hq r')⟩
  | _ => cases hf⟩
theorem ji_range1 {a : Expr} {ta : TA} {r : PAs} {p pos : Pos} (hg : Gl X "range") (hm : X.mg "range" = none) (ha : JA X K [a] ta r) (hs : starEach [a] X.env = [(false, eval a X.env)] := by rfl) : JI X K tg (.Call (.Name "range" p) [a] [] pos) (iRng1 ta) (pCallL gRange1 r) := ⟨pi_range1 hg hm ha.pe hs, by
  intro O σ H ρ items R ok er hf q
  obtain ⟨ds, e1, hf⟩ := bind_some' hf
  refine ha.pu O σ H ρ ds _ ok er e1 fun vs H1 s1 r1 => ?_
  unfold gRange1 at hf
  split at hf
  · rename_i j
    obtain ⟨v, rfl, rv⟩ := rep1 r1
    cases rv
    by_cases hc : -(2 ^ 62) ≤ j ∧ j < 2 ^ 62
    · rw [if_pos hc] at hf
      cases hf
      exact ⟨j, rfl, hc.1, hc.2, q _ H1 s1 itok_range⟩
    · rw [if_neg hc] at hf
      cases hf
  · cases hf⟩
theorem ji_enum {elts : List Expr} {k1 : Nat} {tpos : Pos} {a : Expr} {ta : TA} {r : PAs} {p pos : Pos} (hK : X.K = K) (hg : Gl X "enumerate") (hm : X.mg "enumerate" = none) (ha : JA X K [a] ta r) (hs : starEach [a] X.env = [(false, eval a X.env)] := by rfl) :
    JI X K (.Tuple elts k1 tpos) (.Call (.Name "enumerate" p) [a] [] pos) (iEnum K ta) (pCallL gEnum r) := ⟨by subst hK; exact pi_enum hg hm ha.pe hs, by
  intro O σ H ρ items R ok er hf q
  obtain ⟨ds, e1, hf⟩ := bind_some' hf
  refine ha.pu O σ H ρ ds _ ok er e1 fun vs H1 s1 r1 => ?_
  unfold gEnum at hf
  split at hf
  · rename_i es
    obtain ⟨v, rfl, rv⟩ := rep1 r1
    cases hf
    cases rv with
    | lst hq r' => exact ⟨_, rfl, ⟨_, hid_le.seq hq⟩, q _ H1 s1 (itok_enum hq r')⟩
  · cases hf⟩
theorem ji_zip {elts : List Expr} {k1 : Nat} {tpos : Pos} {a b : Expr} {ta : TA} {r : PAs} {p pos : Pos} (hK : X.K = K) (hg : Gl X "zip") (hm : X.mg "zip" = none) (ha : JA X K [a, b] ta r) (hs : starEach [a, b] X.env = [(false, eval a X.env), (false, eval b X.env)] := by rfl) (hs2 : starEach [b] X.env = [(false, eval b X.env)] := by rfl) :
    JI X K (.Tuple elts k1 tpos) (.Call (.Name "zip" p) [a, b] [] pos) (iZip K ta) (pCallL gZip r) := ⟨by subst hK; exact pi_zip hg hm ha.pe hs hs2, by
  intro O σ H ρ items R ok er hf q
  obtain ⟨ds, e1, hf⟩ := bind_some' hf
  refine ha.pu O σ H ρ ds _ ok er e1 fun vs H1 s1 r1 => ?_
  unfold gZip at hf
  split at hf
  · rename_i xs ys
    obtain ⟨v, u, rfl, rv, ru⟩ := rep2 r1
    cases hf
    cases rv with
    | lst hq r' =>
      cases ru with
      | lst hq2 r2' => exact ⟨_, _, rfl, ⟨_, hid_le.seq hq⟩, ⟨_, hid_le.seq hq2⟩, q _ H1 s1 (itok_zip hq r' hq2 r2')⟩
  · cases hf⟩
end
def PuG (K : PySem.W.Frag) (g : TG) (bd : D → PEnv → Option PEnv) : Prop := ∀ (O : List Addr) (v : V) (d : D) (σ : St) (H : Hp) (ρ ρ' : PEnv) (Q : St → Hp → Prop), OkO O H → Rep K (hid O H) v d → EnvR K (hid O H) σ ρ → σ.length = ρ.length → bd d ρ = some ρ' →
  (∀ σ', σ'.length = ρ'.length → EnvR K (hid O H) σ' ρ' → Q σ' H) → g v σ H Q
structure JG (X : Cx) (K : PySem.W.Frag) (tg : Expr) (g : TG) (bd : D → PEnv → Option PEnv) : Prop where
  pe : PG X tg g
  pu : PuG K g bd
def bd1 (i : Nat) : D → PEnv → Option PEnv := fun d ρ => some (ρ.set i (some d))
def bd2 (i j : Nat) : D → PEnv → Option PEnv
  | .tuple [a, b], ρ => some ((ρ.set i (some a)).set j (some b))
  | _, _ => none
theorem EnvR.set {K : PySem.W.Frag} {H : Hp} {σ : St} {ρ : PEnv} {v : V} {d : D} (e : EnvR K H σ ρ) (hl : σ.length = ρ.length) (r : Rep K H v d) (i : Nat) : EnvR K H (σ.set i (some v)) (ρ.set i (some d)) := fun j d' h => by
  by_cases hj : i = j
  · subst hj
    by_cases hi : i < ρ.length
    · rw [List.getElem?_set_self hi] at h
      cases h
      exact ⟨v, by rw [List.getElem?_set_self (by omega)], r⟩
    · rw [List.getElem?_eq_none (by simp; omega)] at h
      cases h
  · rw [List.getElem?_set_ne hj] at h
    obtain ⟨u, e1, r1⟩ := e j d' h
    exact ⟨u, by rw [List.getElem?_set_ne hj]; exact e1, r1⟩
section
variable {X : Cx} {K : PySem.W.Frag} {pos : Pos}
theorem jg_name {i : Nat} {x : Str} (hN : X.N.Nodup) (hi : X.N[i]? = some x) (hx : Loc X.env.scope x) (hf : X.fn x = true ∨ X.env.scope.names.lookup x = some .local := by first | exact .inl rfl | exact .inr rfl | assumption) : JG X K (.Name x pos) (gName i) (bd1 i) := ⟨pg_name hN hi hx hf, by
  intro O v d σ H ρ ρ' Q ok r er hl hb q
  cases hb
  exact q _ (by simp [hl]) (er.set hl r i)⟩
theorem jg_two {i j : Nat} {x y : Str} {p1 p2 : Pos} {k : Nat} (hK : X.K = K) (hc : X.calm = true) (hN : X.N.Nodup) (hi : X.N[i]? = some x) (hx : Loc X.env.scope x) (hj : X.N[j]? = some y) (hy : Loc X.env.scope y)
    (hf : X.fn x = true ∨ X.env.scope.names.lookup x = some .local := by first | exact .inl rfl | exact .inr rfl | assumption) (hf2 : X.fn y = true ∨ X.env.scope.names.lookup y = some .local := by first | exact .inl rfl | exact .inr rfl | assumption)
    (h1 : (assignEach [.Name x p1, .Name y p2] X.env).map (·.2) = assign (.Name x p1) X.env :: (assignEach [.Name y p2] X.env).map (·.2) := by rfl) (h2 : (assignEach [.Name y p2] X.env).map (·.2) = assign (.Name y p2) X.env :: (assignEach [] X.env).map (·.2) := by rfl)
    (hn : (assignEach [.Name x p1, .Name y p2] X.env).length = 2 := by rfl) (hst : (assignEach [.Name x p1, .Name y p2] X.env).findIdx? (·.1) = none := by rfl) :
    JG X K (.Tuple [.Name x p1, .Name y p2] k pos) (gTup K 2 (gCons (gName i) (gCons (gName j) gNil))) (bd2 i j) := ⟨by
  subst hK
  exact pg_tup hc (pgs_cons (pg_name hN hi hx hf) (pgs_cons (pg_name hN hj hy hf2) pgs_nil h2) h1) hn hst, by
  intro O v d σ H ρ ρ' Q ok r er hl hb q
  unfold bd2 at hb
  split at hb
  · rename_i a b _
    cases hb
    cases r with
    | tup hq r' =>
      obtain ⟨v1, v2, rfl, r1, r2⟩ := rep2 r'
      refine ⟨_, _, rfl, hid_le.seqT hq, rfl, _, _, rfl, _, _, rfl, rfl, ?_⟩
      exact q _ (by simp [hl]) ((er.set hl r1 i).set (by simp [hl]) r2 j)
  · cases hb⟩
end
def compP (bd : D → PEnv → Option PEnv) (pt : PB) (fe : PF) (ρ0 : PEnv) : List D → Option (List D)
  | [] => some []
  | d :: ds => (bd d ρ0).bind fun ρ1 => (pt ρ1).bind fun b => if b = true then (fe ρ1).bind fun e => (compP bd pt fe ρ0 ds).bind fun r => some (e :: r) else compP bd pt fe ρ0 ds
def compEnv (n : Nat) (is : List Nat) (ρ : PEnv) : PEnv := List.replicate n none ++ is.map fun i => (ρ[i]?).join
def pComp (fi : PAs) (bd : D → PEnv → Option PEnv) (pt : PB) (fe : PF) (n : Nat) (is : List Nat) : PAs := fun ρ => (fi ρ).bind fun items => if fits items.length = true then compP bd pt fe (compEnv n is ρ) items else none
theorem compEnv_r {K : PySem.W.Frag} {H : Hp} {σ : St} {ρ : PEnv} {n : Nat} {fv : List (Nat × Str)} (e : EnvR K H σ ρ) : EnvR K H (compSt n fv σ) (compEnv n (fv.map (·.1)) ρ) := fun i d h => by
  unfold compEnv at h
  by_cases hi : i < n
  · rw [List.getElem?_append_left (by simpa using hi), List.getElem?_replicate, if_pos hi] at h
    cases h
  · have hn : n ≤ i := by omega
    rw [List.getElem?_append_right (by simpa using hn), List.length_replicate, List.getElem?_map, List.getElem?_map] at h
    cases e1 : fv[i - n]? with
    | none => rw [e1] at h; cases h
    | some p =>
      rw [e1] at h
      have h' : (ρ[p.1]?).join = some d := Option.some.inj h
      have h2 : ρ[p.1]? = some (some d) := by
        cases e2 : ρ[p.1]? with
        | none => rw [e2] at h'; cases h'
        | some o => rw [e2] at h'; rw [show o = some d from h']
      obtain ⟨v, e3, r⟩ := e p.1 d h2
      refine ⟨v, ?_, r⟩
      unfold compSt
      rw [List.getElem?_append_right (by simpa using hn), List.length_replicate, List.getElem?_map, e1]
      show some (σ[p.1]?).join = _
      rw [e3]
      rfl
section
variable {K : PySem.W.Frag} {wi : TI} {g : TG} {tc : TT} {te : TE} {fi : PAs} {bd : D → PEnv → Option PEnv} {pt : PB} {fe : PF}
theorem pu_comp (hi : PuI K wi fi) (hg : PuG K g bd) (ht : PuT K tc pt) (he : PuE K te fe) (n : Nat) (fv : List (Nat × Str)) : PuL K (tComp wi g tc te n fv) (pComp fi bd pt fe n (fv.map (·.1))) := by
  intro O σ H ρ total Q ok er hf q
  obtain ⟨items, e1, hf⟩ := bind_some' hf
  by_cases hc : fits items.length = true
  case neg => rw [if_neg hc] at hf; cases hf
  rw [if_pos hc] at hf
  refine hi O σ H ρ items _ ok er e1 fun J H1 s1 it => fun D0 hD0 => ?_
  have hlt : items.length < sizeLine := of_decide_eq_true hc
  have okD : ∀ {H'}, H' D0 ≠ none → Same H1 H' → OkO (D0 :: O) H' := fun {H'} hn s' a ha => by
    rcases List.mem_cons.mp ha with rfl | ha
    · cases e : H' a with
      | none => exact absurd e hn
      | some o => exact ⟨o, rfl⟩
    · exact ((ok.mono s1).mono s') a ha
  have sD : ∀ {H'}, Same H1 H' → Same (hid O H1) (hid (D0 :: O) H') := fun {H'} s' b o e => by
    obtain ⟨n1, e⟩ := hid_some e
    have nb : b ≠ D0 := ne_of_none e hD0
    rw [hid_out (by simp [nb, n1])]
    exact s' b o e
  have er1 : EnvR K (hid O H1) σ ρ := er.hid s1
  have lenE : (compSt n fv σ).length = (compEnv n (fv.map (·.1)) ρ).length := by simp [compSt, compEnv]
  refine comp_n (n := items.length) (fun i ys H' => H' D0 = some (.lst ys) ∧ Same H1 H' ∧ ys.length ≤ i ∧ ∃ es rest, RepAll K (hid (D0 :: O) H') ys es ∧ compP bd pt fe (compEnv n (fv.map (·.1)) ρ) (items.drop i) = some rest ∧ es ++ rest = total)
    ⟨upd_same, Same.new hD0, Nat.zero_le _, [], total, .nil, by simpa using hf, rfl⟩ (fun i ys H' p => p.1) (fun i ys H' hi' p => ((it (D0 :: O) H' (okD (by rw [p.1]; simp) p.2.1) (sD p.2.1)).1 i hi')) ?_ ?_
  · rintro i ys H' x H'' hi' ⟨hD', s', hy, es, rest, rr, hcp, htot⟩ yl
    obtain ⟨d, ed, s'', rd⟩ := (it (D0 :: O) H' (okD (by rw [hD']; simp) s') (sD s')).2.1 i x H'' hi' yl
    have hdrop : items.drop i = d :: items.drop (i + 1) := by
      rw [List.drop_eq_getElem_cons hi']
      congr 1
      exact Option.some.inj ((List.getElem?_eq_getElem hi').symm.trans ed)
    rw [hdrop] at hcp
    obtain ⟨ρ1, eb, hcp⟩ := bind_some' hcp
    obtain ⟨b, et, hcp⟩ := bind_some' hcp
    have s2 := s'.trans s''
    have hD'' := s'' _ _ hD'
    have ok2 : OkO (D0 :: O) H'' := okD (by rw [hD'']; simp) s2
    refine hg (D0 :: O) x d _ H'' _ ρ1 _ ok2 rd ((compEnv_r er1).mono (sD s2)) lenE eb fun σ2 hl2 er2 => ?_
    refine ht (D0 :: O) σ2 H'' ρ1 b _ ok2 er2 et fun H3 s3 => ?_
    have s03 := s2.trans s3
    have hD3 := s3 _ _ hD''
    cases b with
    | false =>
      rw [if_neg Bool.false_ne_true] at hcp ⊢
      exact ⟨hD3, s03, by omega, es, rest, rr.hid (s''.trans s3), hcp, htot⟩
    | true =>
      rw [if_pos rfl] at hcp ⊢
      obtain ⟨e, ee, hcp⟩ := bind_some' hcp
      obtain ⟨r, er', hcp⟩ := bind_some' hcp
      cases hcp
      refine he (D0 :: O) σ2 H3 ρ1 e _ (ok2.mono s3) (er2.hid s3) ee fun v H4 s4 rv => ?_
      have hD4 := s4 _ _ hD3
      have s04 := s03.trans s4
      refine ⟨hD4, by omega, upd_same, ?_, by rw [List.length_append]; show ys.length + 1 ≤ i + 1; omega, es ++ [e], r, ?_, er', by rw [List.append_assoc]; exact htot⟩
      · intro b' o' eb'
        rw [upd_ne (ne_of_none eb' hD0)]
        exact s04 b' o' eb'
      · rw [hid_upd (List.mem_cons_self)]
        exact (rr.hid ((s''.trans s3).trans s4)).append (.cons rv .nil)
  · rintro ys H' ⟨hD', s', hy, es, rest, rr, hcp, htot⟩
    refine ⟨(it (D0 :: O) H' (okD (by rw [hD']; simp) s') (sD s')).2.2, ?_⟩
    rw [List.drop_length] at hcp
    cases hcp
    rw [List.append_nil] at htot
    subst htot
    exact q D0 ys H' (s1.trans s') (s1.free hD0) hD' rr
end
section
variable {X : Cx} {K : PySem.W.Frag} {tg elt iter : Expr} {ifs : List Expr} {scope : Scope} {wi : TI} {g : TG} {tc : TT} {te : TE} {fi : PAs} {bd : D → PEnv → Option PEnv} {pt : PB} {fe : PF}
structure JTs (X : Cx) (K : PySem.W.Frag) (ifs : List Expr) (t : TT) (f : PB) : Prop where
  pe : PTs X ifs t
  pu : PuT K t f
theorem jts_nil : JTs X K [] tTrue pTrue := ⟨pts_nil, by
  intro O σ H ρ b Q ok er h q
  cases h
  exact q H (Same.refl H)⟩
theorem jts_one {c : Expr} {t : TT} {f : PB} (h : JT X K c t f) : JTs X K [c] t f := ⟨pts_one h.pe, h.pu⟩
theorem jl_comp {pos : Pos} (own : List Str) (fv : List (Nat × Str)) (hc : X.calm = true) (hi : JI X K tg iter wi fi) (fo : FvOk X scope fv) (gk : GKeep own.length g)
    (bg : ∀ fp pins s H, JG (cxComp X (own ++ fv.map (·.2)) scope (clF X.env scope.names []) fp pins s H) K tg g bd)
    (bt : ∀ fp pins s H, JTs (cxComp X (own ++ fv.map (·.2)) scope (clF X.env scope.names []) fp pins s H) K ifs tc pt)
    (be : ∀ fp pins s H, JE (cxComp X (own ++ fv.map (·.2)) scope (clF X.env scope.names []) fp pins s H) K elt te fe)
    (kind : scope.kind = .function) (cell : ∀ y ∈ scope.names, y.2 ≠ .cell) (names : ∀ x ∈ scope.names, x.2 = .local → scope.names.lookup x.1 = some .local)
    (free : freeOk X scope = true)
    (hs : ∀ x, foldedSetIterable iter X.env x = pure x := by intro _; rfl) :
    JL X K (.ListComp elt [⟨tg, iter, ifs, 0⟩] scope pos) (tComp wi g tc te own.length fv) (pComp fi bd pt fe own.length (fv.map (·.1))) :=
  ⟨pe_comp own fv hc hi.pe fo gk (fun fp pins s H => (bg fp pins s H).pe) (fun fp pins s H => (bt fp pins s H).pe) (fun fp pins s H => (be fp pins s H).pe) kind cell names free hs,
   pu_comp hi.pu (bg [] [] X.s₀ X.H₀).pu (bt [] [] X.s₀ X.H₀).pu (be [] [] X.s₀ X.H₀).pu _ _⟩
end
end L2
set_option maxHeartbeats 4000000
namespace L2
open PySem PySem.Spec PyProof.Rows
inductive Sl where
  | no
  | sh (d : D)
  | ow (ds : List D)
  | on (dss : List (List D))
abbrev SEnv := List Sl
def Sl.view : Sl → Option D
  | .no => none
  | .sh d => some d
  | .ow ds => some (.list ds)
  | .on dss => some (.list (dss.map .list))
def Sl.mask : Sl → Option D
  | .sh d => some d
  | _ => none
def full (ρ : SEnv) : PEnv := ρ.map Sl.view
def masked (ρ : SEnv) : PEnv := ρ.map Sl.mask
theorem refs_inj {H : Hp} {a : Addr} {ps qs : List Addr} (e : H a = some (.lst (ps.map V.ref))) (e' : H a = some (.lst (qs.map V.ref))) : ps = qs := by
  rw [e] at e'
  have : ps.map V.ref = qs.map V.ref := by injection e' with e'; injection e'
  exact (List.map_inj_right fun x y z => by injection z).mp this
inductive Inner (K : PySem.W.Frag) (G H : Hp) : List Addr → List (List D) → Prop
  | nil : Inner K G H [] []
  | cons {p : Addr} {xs : List V} {ds : List D} {ps : List Addr} {dss : List (List D)} : H p = some (.lst xs) → RepAll K G xs ds → Inner K G H ps dss → Inner K G H (p :: ps) (ds :: dss)
section
variable {K : PySem.W.Frag} {G G' H H' : Hp}
theorem Inner.len {ps : List Addr} {dss : List (List D)} (i : Inner K G H ps dss) : ps.length = dss.length := by
  induction i with
  | nil => rfl
  | cons _ _ _ ih => simp [ih]
theorem Inner.mem {ps : List Addr} {dss : List (List D)} (i : Inner K G H ps dss) : ∀ a ∈ ps, ∃ xs, H a = some (.lst xs) := by
  induction i with
  | nil => intro a h; cases h
  | cons e _ _ ih =>
    intro b h
    rcases List.mem_cons.mp h with rfl | h
    · exact ⟨_, e⟩
    · exact ih b h
theorem Inner.mono {ps : List Addr} {dss : List (List D)} (i : Inner K G H ps dss) (g : Same G G') (h : ∀ a ∈ ps, ∀ o, H a = some o → H' a = some o) : Inner K G' H' ps dss := by
  induction i with
  | nil => exact .nil
  | cons e r _ ih => exact .cons (h _ List.mem_cons_self _ e) (r.mono g) (ih fun a ha => h a (List.mem_cons_of_mem _ ha))
theorem Inner.full {ps : List Addr} {dss : List (List D)} (i : Inner K G H ps dss) (g : Same G G') (h : ∀ a ∈ ps, ∀ o, H a = some o → G' a = some o) : RepAll K G' (ps.map V.ref) (dss.map .list) := by
  induction i with
  | nil => exact .nil
  | cons e r _ ih => exact .cons (.lst (SqL.of (h _ List.mem_cons_self _ e)) (r.mono g)) (ih fun a ha => h a (List.mem_cons_of_mem _ ha))
theorem Inner.get : ∀ {ps : List Addr} {dss : List (List D)} {j : Nat} {ds : List D}, Inner K G H ps dss → dss[j]? = some ds → ∃ p xs, ps[j]? = some p ∧ H p = some (.lst xs) ∧ RepAll K G xs ds
  | _, _, _, _, .nil, h => by simp at h
  | _, _, 0, _, .cons e r _, h => by simp at h; subst h; exact ⟨_, _, rfl, e, r⟩
  | _, _, j + 1, _, .cons _ _ t, h => by
    obtain ⟨p, xs, h1, h2, h3⟩ := Inner.get (j := j) t (by simpa using h)
    exact ⟨p, xs, by simpa using h1, h2, h3⟩
theorem Inner.write {p : Addr} {ys : List V} {es : List D} (r : RepAll K G ys es) : ∀ {ps : List Addr} {dss : List (List D)} {j : Nat}, ps.Nodup → Inner K G H ps dss → ps[j]? = some p → Inner K G (upd H p (.lst ys)) ps (dss.set j es)
  | _, _, _, _, .nil, h => by simp at h
  | _, _, 0, nd, .cons e _ t, h => by
    simp at h
    subst h
    have nd' := List.nodup_cons.mp nd
    exact .cons upd_same r (t.mono (Same.refl _) fun b hb o e => by rw [upd_ne fun z => nd'.1 (by rw [← z]; exact hb)]; exact e)
  | _, _, j + 1, nd, .cons e q t, h => by
    have nd' := List.nodup_cons.mp nd
    rw [List.getElem?_cons_succ] at h
    have h' := h
    have hm := List.mem_of_getElem? h'
    exact .cons (by rw [upd_ne fun z => nd'.1 (by rw [z]; exact hm)]; exact e) q (Inner.write (j := j) r nd'.2 t h')
end
inductive Slots (K : PySem.W.Frag) (G H : Hp) : St → SEnv → List Addr → Prop
  | nil : Slots K G H [] [] []
  | no {v : Option V} {σ : St} {ρ : SEnv} {O : List Addr} : Slots K G H σ ρ O → Slots K G H (v :: σ) (.no :: ρ) O
  | sh {v : V} {d : D} {σ : St} {ρ : SEnv} {O : List Addr} : Rep K G v d → Slots K G H σ ρ O → Slots K G H (some v :: σ) (.sh d :: ρ) O
  | ow {a : Addr} {xs : List V} {ds : List D} {σ : St} {ρ : SEnv} {O : List Addr} : H a = some (.lst xs) → RepAll K G xs ds → Slots K G H σ ρ O → Slots K G H (some (.ref a) :: σ) (.ow ds :: ρ) (a :: O)
  | on {a : Addr} {ps : List Addr} {dss : List (List D)} {σ : St} {ρ : SEnv} {O : List Addr} : H a = some (.lst (ps.map V.ref)) → Inner K G H ps dss → Slots K G H σ ρ O → Slots K G H (some (.ref a) :: σ) (.on dss :: ρ) (a :: (ps ++ O))
section
variable {K : PySem.W.Frag} {G G' H H' : Hp} {σ : St} {ρ : SEnv} {O : List Addr}
theorem Slots.mem (s : Slots K G H σ ρ O) : ∀ a ∈ O, ∃ xs, H a = some (.lst xs) := by
  induction s with
  | nil => intro a h; cases h
  | no _ ih => exact ih
  | sh _ _ ih => exact ih
  | ow e _ _ ih =>
    intro b h
    rcases List.mem_cons.mp h with rfl | h
    · exact ⟨_, e⟩
    · exact ih b h
  | on e i _ ih =>
    intro b h
    rcases List.mem_cons.mp h with rfl | h
    · exact ⟨_, e⟩
    · rcases List.mem_append.mp h with h | h
      · exact i.mem b h
      · exact ih b h
theorem Slots.mono (s : Slots K G H σ ρ O) (g : Same G G') (h : ∀ a ∈ O, ∀ o, H a = some o → H' a = some o) : Slots K G' H' σ ρ O := by
  induction s with
  | nil => exact .nil
  | no _ ih => exact .no (ih h)
  | sh r _ ih => exact .sh (r.mono g) (ih h)
  | ow e r _ ih => exact .ow (h _ List.mem_cons_self _ e) (r.mono g) (ih fun a ha => h a (List.mem_cons_of_mem _ ha))
  | on e i _ ih => exact .on (h _ List.mem_cons_self _ e) (i.mono g fun a ha => h a (List.mem_cons_of_mem _ (List.mem_append_left _ ha))) (ih fun a ha => h a (List.mem_cons_of_mem _ (List.mem_append_right _ ha)))
theorem Slots.mask (s : Slots K G H σ ρ O) : EnvR K G σ (masked ρ) := by
  induction s with
  | nil => intro i d h; cases h
  | no _ ih =>
    intro i d h
    cases i with
    | zero => cases h
    | succ i => exact ih i d h
  | sh r _ ih =>
    intro i d h
    cases i with
    | zero => cases h; exact ⟨_, rfl, r⟩
    | succ i => exact ih i d h
  | ow _ _ _ ih =>
    intro i d h
    cases i with
    | zero => cases h
    | succ i => exact ih i d h
  | on _ _ _ ih =>
    intro i d h
    cases i with
    | zero => cases h
    | succ i => exact ih i d h
theorem Slots.full {G' : Hp} (s : Slots K G H σ ρ O) (g : Same G G') (h : ∀ a ∈ O, ∀ o, H a = some o → G' a = some o) : EnvR K G' σ (full ρ) := by
  induction s with
  | nil => intro i d h; cases h
  | no _ ih =>
    intro i d h'
    cases i with
    | zero => cases h'
    | succ i => exact ih h i d h'
  | sh r _ ih =>
    intro i d h'
    cases i with
    | zero => cases h'; exact ⟨_, rfl, r.mono g⟩
    | succ i => exact ih h i d h'
  | ow e r _ ih =>
    intro i d h'
    cases i with
    | zero => cases h'; exact ⟨_, rfl, .lst (SqL.of (h _ List.mem_cons_self _ e)) (r.mono g)⟩
    | succ i => exact ih (fun a ha => h a (List.mem_cons_of_mem _ ha)) i d h'
  | on e inn _ ih =>
    intro i d h'
    cases i with
    | zero => cases h'; exact ⟨_, rfl, .lst (SqL.of (h _ List.mem_cons_self _ e)) (inn.full g fun a ha => h a (List.mem_cons_of_mem _ (List.mem_append_left _ ha)))⟩
    | succ i => exact ih (fun a ha => h a (List.mem_cons_of_mem _ (List.mem_append_right _ ha))) i d h'
theorem Slots.setSh {v : V} {d : D} (r : Rep K G v d) : ∀ {σ : St} {ρ : SEnv} {O : List Addr} (i : Nat), Slots K G H σ ρ O → ∃ O', O'.Sublist O ∧ Slots K G H (σ.set i (some v)) (ρ.set i (.sh d)) O'
  | _, _, _, _, .nil => ⟨_, .refl _, .nil⟩
  | _, _, _, 0, .no t => ⟨_, .refl _, .sh r t⟩
  | _, _, _, 0, .sh _ t => ⟨_, .refl _, .sh r t⟩
  | _, _, _, 0, .ow _ _ t => ⟨_, .cons _ (.refl _), .sh r t⟩
  | _, _, _, 0, .on _ _ t => ⟨_, .cons _ (List.sublist_append_right _ _), .sh r t⟩
  | _, _, _, i + 1, .no t => by obtain ⟨O', h, s⟩ := Slots.setSh r i t; exact ⟨O', h, .no s⟩
  | _, _, _, i + 1, .sh q t => by obtain ⟨O', h, s⟩ := Slots.setSh r i t; exact ⟨O', h, .sh q s⟩
  | _, _, _, i + 1, .ow e q t => by obtain ⟨O', h, s⟩ := Slots.setSh r i t; exact ⟨_, .cons₂ _ h, .ow e q s⟩
  | _, _, _, i + 1, .on e q t => by obtain ⟨O', h, s⟩ := Slots.setSh r i t; exact ⟨_, .cons₂ _ (List.Sublist.append_left h _), .on e q s⟩
theorem Slots.setOw {a : Addr} {xs : List V} {ds : List D} (e : H a = some (.lst xs)) (r : RepAll K G xs ds) : ∀ {σ : St} {ρ : SEnv} {O : List Addr} (i : Nat), a ∉ O → O.Nodup → Slots K G H σ ρ O →
    ∃ O', (∀ b ∈ O', b = a ∨ b ∈ O) ∧ O'.Nodup ∧ Slots K G H (σ.set i (some (.ref a))) (ρ.set i (.ow ds)) O'
  | _, _, _, _, _, nd, .nil => ⟨[], (fun b h => by cases h), nd, .nil⟩
  | _, _, _, 0, na, nd, .no t => ⟨_, fun b h => List.mem_cons.mp h, List.nodup_cons.mpr ⟨na, nd⟩, .ow e r t⟩
  | _, _, _, 0, na, nd, .sh _ t => ⟨_, fun b h => List.mem_cons.mp h, List.nodup_cons.mpr ⟨na, nd⟩, .ow e r t⟩
  | _, _, _, 0, na, nd, .ow _ _ t => ⟨_, fun b h => (List.mem_cons.mp h).imp id (fun z => List.mem_cons_of_mem _ z), List.nodup_cons.mpr ⟨fun z => na (List.mem_cons_of_mem _ z), (List.nodup_cons.mp nd).2⟩, .ow e r t⟩
  | _, _, _, 0, na, nd, .on _ _ t => ⟨_, fun b h => (List.mem_cons.mp h).imp id (fun z => List.mem_cons_of_mem _ (List.mem_append_right _ z)), List.nodup_cons.mpr ⟨fun z => na (List.mem_cons_of_mem _ (List.mem_append_right _ z)), (List.nodup_append.mp (List.nodup_cons.mp nd).2).2.1⟩, .ow e r t⟩
  | _, _, _, i + 1, na, nd, .no t => by obtain ⟨O', h, n, s⟩ := Slots.setOw e r i na nd t; exact ⟨O', h, n, .no s⟩
  | _, _, _, i + 1, na, nd, .sh q t => by obtain ⟨O', h, n, s⟩ := Slots.setOw e r i na nd t; exact ⟨O', h, n, .sh q s⟩
  | _, _, _, i + 1, na, nd, .ow e' q t => by
    have nd' := List.nodup_cons.mp nd
    obtain ⟨O', h, n, s⟩ := Slots.setOw e r i (fun z => na (List.mem_cons_of_mem _ z)) nd'.2 t
    refine ⟨_, fun b hb => ?_, List.nodup_cons.mpr ⟨fun z => ?_, n⟩, .ow e' q s⟩
    · rcases List.mem_cons.mp hb with rfl | hb
      · exact .inr List.mem_cons_self
      · exact (h b hb).imp id (fun z => List.mem_cons_of_mem _ z)
    · rcases h _ z with z | z
      · exact na (by rw [← z]; exact List.mem_cons_self)
      · exact nd'.1 z
  | _, _, _, i + 1, na, nd, .on e' q t => by
    have nd' := List.nodup_cons.mp nd
    have nd2 := List.nodup_append.mp nd'.2
    obtain ⟨O', h, n, s⟩ := Slots.setOw e r i (fun z => na (List.mem_cons_of_mem _ (List.mem_append_right _ z))) nd2.2.1 t
    refine ⟨_, fun b hb => ?_, List.nodup_cons.mpr ⟨fun z => ?_, List.nodup_append.mpr ⟨nd2.1, n, fun x hx y hy hxy => ?_⟩⟩, .on e' q s⟩
    · rcases List.mem_cons.mp hb with rfl | hb
      · exact .inr List.mem_cons_self
      · rcases List.mem_append.mp hb with hb | hb
        · exact .inr (List.mem_cons_of_mem _ (List.mem_append_left _ hb))
        · exact (h b hb).imp id (fun z => List.mem_cons_of_mem _ (List.mem_append_right _ z))
    · rcases List.mem_append.mp z with z | z
      · exact nd'.1 (List.mem_append_left _ z)
      · rcases h _ z with z | z
        · exact na (by rw [← z]; exact List.mem_cons_self)
        · exact nd'.1 (List.mem_append_right _ z)
    · rcases h y hy with z | z
      · exact na (by rw [← z, ← hxy]; exact List.mem_cons_of_mem _ (List.mem_append_left _ hx))
      · exact nd2.2.2 x hx y z hxy
theorem Slots.setOn {a : Addr} {ps : List Addr} {dss : List (List D)} (e : H a = some (.lst (ps.map V.ref))) (r : Inner K G H ps dss) (hap : (a :: ps).Nodup) : ∀ {σ : St} {ρ : SEnv} {O : List Addr} (i : Nat), (∀ b ∈ a :: ps, b ∉ O) → O.Nodup → Slots K G H σ ρ O →
    ∃ O', (∀ b ∈ O', b ∈ a :: ps ∨ b ∈ O) ∧ O'.Nodup ∧ Slots K G H (σ.set i (some (.ref a))) (ρ.set i (.on dss)) O'
  | _, _, _, _, _, nd, .nil => ⟨[], (fun b h => by cases h), nd, .nil⟩
  | _, _, O, 0, na, nd, .no t => ⟨_, fun b h => List.mem_append.mp (show b ∈ (a :: ps) ++ O from h), (List.nodup_append.mpr ⟨hap, nd, fun x hx y hy z => na x hx (by rw [z]; exact hy)⟩ : ((a :: ps) ++ O).Nodup), .on e r t⟩
  | _, _, O, 0, na, nd, .sh _ t => ⟨_, fun b h => List.mem_append.mp (show b ∈ (a :: ps) ++ O from h), (List.nodup_append.mpr ⟨hap, nd, fun x hx y hy z => na x hx (by rw [z]; exact hy)⟩ : ((a :: ps) ++ O).Nodup), .on e r t⟩
  | _, _, _, 0, na, nd, .ow _ _ t => ⟨_, fun b h => (List.mem_append.mp (show b ∈ (a :: ps) ++ _ from h)).imp id (fun z => List.mem_cons_of_mem _ z), (List.nodup_append.mpr ⟨hap, (List.nodup_cons.mp nd).2, fun x hx y hy z => na x hx (by rw [z]; exact List.mem_cons_of_mem _ hy)⟩ : ((a :: ps) ++ _).Nodup), .on e r t⟩
  | _, _, _, 0, na, nd, .on _ _ t => ⟨_, fun b h => (List.mem_append.mp (show b ∈ (a :: ps) ++ _ from h)).imp id (fun z => List.mem_cons_of_mem _ (List.mem_append_right _ z)), (List.nodup_append.mpr ⟨hap, (List.nodup_append.mp (List.nodup_cons.mp nd).2).2.1, fun x hx y hy z => na x hx (by rw [z]; exact List.mem_cons_of_mem _ (List.mem_append_right _ hy))⟩ : ((a :: ps) ++ _).Nodup), .on e r t⟩
  | _, _, _, i + 1, na, nd, .no t => by obtain ⟨O', h, n, s⟩ := Slots.setOn e r hap i na nd t; exact ⟨O', h, n, .no s⟩
  | _, _, _, i + 1, na, nd, .sh q t => by obtain ⟨O', h, n, s⟩ := Slots.setOn e r hap i na nd t; exact ⟨O', h, n, .sh q s⟩
  | _, _, _, i + 1, na, nd, .ow e' q t => by
    have nd' := List.nodup_cons.mp nd
    obtain ⟨O', h, n, s⟩ := Slots.setOn e r hap i (fun b hb z => na b hb (List.mem_cons_of_mem _ z)) nd'.2 t
    refine ⟨_, fun b hb => ?_, List.nodup_cons.mpr ⟨fun z => ?_, n⟩, .ow e' q s⟩
    · rcases List.mem_cons.mp hb with rfl | hb
      · exact .inr List.mem_cons_self
      · exact (h b hb).imp id (fun z => List.mem_cons_of_mem _ z)
    · rcases h _ z with z | z
      · exact na _ z List.mem_cons_self
      · exact nd'.1 z
  | _, _, _, i + 1, na, nd, .on e' q t => by
    have nd' := List.nodup_cons.mp nd
    have nd2 := List.nodup_append.mp nd'.2
    obtain ⟨O', h, n, s⟩ := Slots.setOn e r hap i (fun b hb z => na b hb (List.mem_cons_of_mem _ (List.mem_append_right _ z))) nd2.2.1 t
    refine ⟨_, fun b hb => ?_, List.nodup_cons.mpr ⟨fun z => ?_, List.nodup_append.mpr ⟨nd2.1, n, fun x hx y hy hxy => ?_⟩⟩, .on e' q s⟩
    · rcases List.mem_cons.mp hb with rfl | hb
      · exact .inr List.mem_cons_self
      · rcases List.mem_append.mp hb with hb | hb
        · exact .inr (List.mem_cons_of_mem _ (List.mem_append_left _ hb))
        · exact (h b hb).imp id (fun z => List.mem_cons_of_mem _ (List.mem_append_right _ z))
    · rcases List.mem_append.mp z with z | z
      · exact nd'.1 (List.mem_append_left _ z)
      · rcases h _ z with z | z
        · exact na _ z List.mem_cons_self
        · exact nd'.1 (List.mem_append_right _ z)
    · rcases h y hy with z | z
      · exact na y z (by rw [← hxy]; exact List.mem_cons_of_mem _ (List.mem_append_left _ hx))
      · exact nd2.2.2 x hx y z hxy
theorem Slots.getOw : ∀ {σ : St} {ρ : SEnv} {O : List Addr} {i : Nat} {ds : List D}, Slots K G H σ ρ O → ρ[i]? = some (.ow ds) → ∃ a xs, σ[i]? = some (some (.ref a)) ∧ a ∈ O ∧ H a = some (.lst xs) ∧ RepAll K G xs ds
  | _, _, _, _, _, .nil, h => by cases h
  | _, _, _, 0, _, .no t, h => by cases h
  | _, _, _, 0, _, .sh _ t, h => by cases h
  | _, _, _, 0, _, .ow e r t, h => by cases h; exact ⟨_, _, rfl, List.mem_cons_self, e, r⟩
  | _, _, _, i + 1, _, .no t, h => Slots.getOw (i := i) t h
  | _, _, _, i + 1, _, .sh _ t, h => Slots.getOw (i := i) t h
  | _, _, _, i + 1, _, .ow _ _ t, h => by
    obtain ⟨a, xs, h1, h2, h3⟩ := Slots.getOw (i := i) t h
    exact ⟨a, xs, h1, List.mem_cons_of_mem _ h2, h3⟩
  | _, _, _, 0, _, .on _ _ t, h => by cases h
  | _, _, _, i + 1, _, .on _ _ t, h => by
    obtain ⟨a, xs, h1, h2, h3⟩ := Slots.getOw (i := i) t h
    exact ⟨a, xs, h1, List.mem_cons_of_mem _ (List.mem_append_right _ h2), h3⟩
theorem Slots.getOn : ∀ {σ : St} {ρ : SEnv} {O : List Addr} {i : Nat} {dss : List (List D)}, O.Nodup → Slots K G H σ ρ O → ρ[i]? = some (.on dss) → ∃ a ps, σ[i]? = some (some (.ref a)) ∧ (∀ b ∈ a :: ps, b ∈ O) ∧ (a :: ps).Nodup ∧ H a = some (.lst (ps.map V.ref)) ∧ Inner K G H ps dss
  | _, _, _, _, _, _, .nil, h => by cases h
  | _, _, _, 0, _, _, .no t, h => by cases h
  | _, _, _, 0, _, _, .sh _ t, h => by cases h
  | _, _, _, 0, _, _, .ow _ _ t, h => by cases h
  | _, _, _, 0, _, nd, .on e r t, h => by
    cases h
    have nd' : ((_ :: _) ++ _).Nodup := nd
    exact ⟨_, _, rfl, fun b hb => List.mem_append_left _ hb, (List.nodup_append.mp nd').1, e, r⟩
  | _, _, _, i + 1, _, nd, .no t, h => Slots.getOn (i := i) nd t h
  | _, _, _, i + 1, _, nd, .sh _ t, h => Slots.getOn (i := i) nd t h
  | _, _, _, i + 1, _, nd, .ow _ _ t, h => by
    obtain ⟨a, xs, h1, h2, h3⟩ := Slots.getOn (i := i) (List.nodup_cons.mp nd).2 t h
    exact ⟨a, xs, h1, fun b hb => List.mem_cons_of_mem _ (h2 b hb), h3⟩
  | _, _, _, i + 1, _, nd, .on _ _ t, h => by
    obtain ⟨a, xs, h1, h2, h3⟩ := Slots.getOn (i := i) (List.nodup_append.mp (List.nodup_cons.mp nd).2).2.1 t h
    exact ⟨a, xs, h1, fun b hb => List.mem_cons_of_mem _ (List.mem_append_right _ (h2 b hb)), h3⟩
theorem Slots.write {a : Addr} {ys : List V} {es : List D} (r : RepAll K G ys es) : ∀ {σ : St} {ρ : SEnv} {O : List Addr} {i : Nat} {ds : List D}, O.Nodup → Slots K G H σ ρ O → ρ[i]? = some (.ow ds) → σ[i]? = some (some (.ref a)) →
    Slots K G (upd H a (.lst ys)) σ (ρ.set i (.ow es)) O
  | _, _, _, _, _, _, .nil, h, _ => by cases h
  | _, _, _, 0, _, _, .no t, h, _ => by cases h
  | _, _, _, 0, _, _, .sh _ t, h, _ => by cases h
  | _, _, _, 0, _, nd, .ow e _ t, h, h2 => by
    cases h2
    have nd' := List.nodup_cons.mp nd
    exact .ow upd_same r (t.mono (Same.refl _) fun b hb o e => by rw [upd_ne fun z => nd'.1 (by rw [← z]; exact hb)]; exact e)
  | _, _, _, i + 1, _, nd, .no t, h, h2 => .no (Slots.write (i := i) r nd t h h2)
  | _, _, _, i + 1, _, nd, .sh q t, h, h2 => .sh q (Slots.write (i := i) r nd t h h2)
  | _, _, _, i + 1, _, nd, .ow e q t, h, h2 => by
    have nd' := List.nodup_cons.mp nd
    obtain ⟨b, xs, h3, h4, _⟩ := Slots.getOw (i := i) t h
    have h2' : _ = some (some (V.ref a)) := h2
    rw [List.getElem?_cons_succ, h3] at h2'
    cases h2'
    exact .ow (by rw [upd_ne fun z => nd'.1 (by rw [z]; exact h4)]; exact e) q (Slots.write (i := i) r nd'.2 t h h2)
  | _, _, _, 0, _, _, .on _ _ t, h, _ => by cases h
  | _, _, _, i + 1, _, nd, .on e q t, h, h2 => by
    have nd' := List.nodup_cons.mp nd
    have nd2 := List.nodup_append.mp nd'.2
    obtain ⟨b, xs, h3, h4, _⟩ := Slots.getOw (i := i) t h
    have h2' : _ = some (some (V.ref a)) := h2
    rw [List.getElem?_cons_succ, h3] at h2'
    cases h2'
    exact .on (by rw [upd_ne fun z => nd'.1 (by rw [z]; exact List.mem_append_right _ h4)]; exact e) (q.mono (Same.refl _) fun b hb o e => by rw [upd_ne fun z => nd2.2.2 b hb a (by first | exact h4 | (rw [← z]; exact h4)) (by first | exact z | rfl)]; exact e) (Slots.write (i := i) r nd2.2.1 t h h2)
theorem Slots.inN {p : Addr} {ps : List Addr} {a : Addr} {j : Nat} {σ : St} {ρ : SEnv} {O : List Addr} {i : Nat} {dss : List (List D)} (nd : O.Nodup) (s : Slots K G H σ ρ O) (h : ρ[i]? = some (.on dss)) (h2 : σ[i]? = some (some (.ref a))) (ha : H a = some (.lst (ps.map V.ref))) (hj : ps[j]? = some p) : p ∈ O := by
  obtain ⟨a', ps', h3, h4, h5, h6, h7⟩ := s.getOn nd h
  rw [h2] at h3
  cases h3
  have ep : ps' = ps := by
    rw [h6] at ha
    have : ps'.map V.ref = ps.map V.ref := by injection ha with ha; injection ha
    exact (List.map_inj_right fun x y z => by injection z).mp this
  subst ep
  exact h4 p (List.mem_cons_of_mem _ (List.mem_of_getElem? hj))
theorem Slots.writeN {p : Addr} {ps : List Addr} {a : Addr} {j : Nat} {ys : List V} {es : List D} (r : RepAll K G ys es) : ∀ {σ : St} {ρ : SEnv} {O : List Addr} {i : Nat} {dss : List (List D)}, O.Nodup → Slots K G H σ ρ O → ρ[i]? = some (.on dss) → σ[i]? = some (some (.ref a)) → H a = some (.lst (ps.map V.ref)) → ps[j]? = some p →
    Slots K G (upd H p (.lst ys)) σ (ρ.set i (.on (dss.set j es))) O
  | _, _, _, _, _, _, .nil, h, _, _, _ => by cases h
  | _, _, _, 0, _, _, .no t, h, _, _, _ => by cases h
  | _, _, _, 0, _, _, .sh _ t, h, _, _, _ => by cases h
  | _, _, _, 0, _, _, .ow _ _ t, h, _, _, _ => by cases h
  | _, _, _, 0, _, nd, .on e q t, h, h2, ha, hj => by
    cases h
    cases h2
    have nd' := List.nodup_cons.mp nd
    have nd2 := List.nodup_append.mp nd'.2
    cases refs_inj e ha
    have hm := List.mem_of_getElem? hj
    refine .on (by rw [upd_ne fun z => nd'.1 (by rw [z]; exact List.mem_append_left _ hm)]; exact e) (q.write r nd2.1 hj) (t.mono (Same.refl _) fun b hb o e => ?_)
    rw [upd_ne fun z => nd2.2.2 p hm b hb z.symm]
    exact e
  | _, _, _, i + 1, _, nd, .no t, h, h2, ha, hj => .no (Slots.writeN (i := i) r nd t h h2 ha hj)
  | _, _, _, i + 1, _, nd, .sh q t, h, h2, ha, hj => .sh q (Slots.writeN (i := i) r nd t h h2 ha hj)
  | _, _, _, i + 1, _, nd, .ow e q t, h, h2, ha, hj => by
    have nd' := List.nodup_cons.mp nd
    have hp := Slots.inN (i := i) nd'.2 t h h2 ha hj
    exact .ow (by rw [upd_ne fun z => nd'.1 (by rw [z]; exact hp)]; exact e) q (Slots.writeN (i := i) r nd'.2 t h h2 ha hj)
  | _, _, _, i + 1, _, nd, .on e q t, h, h2, ha, hj => by
    have nd' := List.nodup_cons.mp nd
    have nd2 := List.nodup_append.mp nd'.2
    have hp := Slots.inN (i := i) nd2.2.1 t h h2 ha hj
    exact .on (by rw [upd_ne fun z => nd'.1 (by rw [z]; exact List.mem_append_right _ hp)]; exact e) (q.mono (Same.refl _) fun b hb o e => by rw [upd_ne fun z => nd2.2.2 b hb p hp z]; exact e) (Slots.writeN (i := i) r nd2.2.1 t h h2 ha hj)
end
structure StR (K : PySem.W.Frag) (H0 : Hp) (O0 : List Addr) (G : Hp) (σ : St) (H : Hp) (ρ : SEnv) : Prop where
  ex : ∃ O, Same H0 H ∧ (∀ a ∈ O, H0 a = none) ∧ O.Nodup ∧ Same G (hid (O0 ++ O) H) ∧ Slots K (hid (O0 ++ O) H) H σ ρ O
structure StV (K : PySem.W.Frag) (H0 : Hp) (O0 : List Addr) (G : Hp) (σ : St) (H : Hp) (ρ : SEnv) (v : V) (s : Sl) : Prop where
  ex : ∃ O P, Same H0 H ∧ (∀ a ∈ O, H0 a = none) ∧ O.Nodup ∧ Same G (hid (O0 ++ (P ++ O)) H) ∧ Slots K (hid (O0 ++ (P ++ O)) H) H σ ρ O ∧
    match s with
    | .no => False
    | .sh d => P = [] ∧ Rep K (hid (O0 ++ (P ++ O)) H) v d
    | .ow ds => ∃ a xs, P = [a] ∧ v = .ref a ∧ a ∉ O ∧ H0 a = none ∧ H a = some (.lst xs) ∧ RepAll K (hid (O0 ++ (P ++ O)) H) xs ds
    | .on dss => ∃ a ps, P = a :: ps ∧ v = .ref a ∧ (a :: ps).Nodup ∧ (∀ b ∈ a :: ps, b ∉ O ∧ H0 b = none) ∧ H a = some (.lst (ps.map V.ref)) ∧ Inner K (hid (O0 ++ (P ++ O)) H) H ps dss
section
variable {K : PySem.W.Frag} {H0 : Hp} {O0 : List Addr} {G : Hp} {σ : St} {H H' : Hp} {ρ : SEnv}
theorem okAll (ok : OkO O0 H0) {O : List Addr} (s0 : Same H0 H) (sl : Slots K G H σ ρ O) : OkO (O0 ++ O) H := fun a ha => by
  rcases List.mem_append.mp ha with h | h
  · exact (ok.mono s0) a h
  · obtain ⟨xs, e⟩ := sl.mem a h
    exact ⟨_, e⟩
theorem StR.grow (t : StR K H0 O0 G σ H ρ) (s : Same H H') : StR K H0 O0 G σ H' ρ := by
  obtain ⟨O, s0, n, nd, g, sl⟩ := t.ex
  exact ⟨O, s0.trans s, n, nd, g.trans (hid_same s), sl.mono (hid_same s) fun a _ o e => s a o e⟩
theorem StV.grow {v : V} {d : D} (t : StV K H0 O0 G σ H ρ v (.sh d)) (s : Same H H') : StV K H0 O0 G σ H' ρ v (.sh d) := by
  obtain ⟨O, P, s0, n, nd, g, sl, hp, r⟩ := t.ex
  exact ⟨O, P, s0.trans s, n, nd, g.trans (hid_same s), sl.mono (hid_same s) fun a _ o e => s a o e, hp, r.hid s⟩
theorem StV.str {v : V} {d : D} (t : StV K H0 O0 G σ H ρ v (.sh d)) : StR K H0 O0 G σ H ρ := by
  obtain ⟨O, P, s0, n, nd, g, sl, hp, r⟩ := t.ex
  subst hp
  exact ⟨O, s0, n, nd, g, sl⟩
theorem StV.set {v : V} {s : Sl} (t : StV K H0 O0 G σ H ρ v s) (i : Nat) : StR K H0 O0 G (σ.set i (some v)) H (ρ.set i s) := by
  obtain ⟨O, P, s0, n, nd, g, sl, h⟩ := t.ex
  cases s with
  | no => exact h.elim
  | sh d =>
    obtain ⟨rfl, r⟩ := h
    obtain ⟨O', hs, sl'⟩ := sl.setSh r i
    have sub : ∀ b, b ∈ O0 ++ O' → b ∈ O0 ++ ([] ++ O) := fun b hb => (List.mem_append.mp hb).elim (fun z => List.mem_append_left _ z) fun z => List.mem_append_right _ (hs.subset z)
    exact ⟨O', s0, fun a ha => n a (hs.subset ha), hs.nodup nd, g.trans (hid_sub sub), sl'.mono (hid_sub sub) fun _ _ _ e => e⟩
  | ow ds =>
    obtain ⟨a, xs, rfl, rfl, na, h0, e, r⟩ := h
    obtain ⟨O', hs, nd', sl'⟩ := sl.setOw e r i na nd
    have sub : ∀ b, b ∈ O0 ++ O' → b ∈ O0 ++ ([a] ++ O) := fun b hb => (List.mem_append.mp hb).elim (fun z => List.mem_append_left _ z) fun z => List.mem_append_right _ (by
      rcases hs b z with rfl | z
      · simp
      · simp [z])
    refine ⟨O', s0, fun b hb => ?_, nd', g.trans (hid_sub sub), sl'.mono (hid_sub sub) fun _ _ _ e => e⟩
    rcases hs b hb with rfl | z
    · exact h0
    · exact n b z
  | on dss =>
    obtain ⟨a, ps, rfl, rfl, nda, na, e, r⟩ := h
    obtain ⟨O', hs, nd', sl'⟩ := sl.setOn e r nda i (fun b hb => (na b hb).1) nd
    have sub : ∀ b, b ∈ O0 ++ O' → b ∈ O0 ++ ((a :: ps) ++ O) := fun b hb => (List.mem_append.mp hb).elim (fun z => List.mem_append_left _ z) fun z => List.mem_append_right _ (by
      rcases hs b z with z | z
      · exact List.mem_append_left _ z
      · exact List.mem_append_right _ z)
    refine ⟨O', s0, fun b hb => ?_, nd', g.trans (hid_sub sub), sl'.mono (hid_sub sub) fun _ _ _ e => e⟩
    rcases hs b hb with z | z
    · exact (na b z).2
    · exact n b z
end
inductive Out where
  | nx (ρ : SEnv)
  | rt (d : D)
  | rl (ds : List D)
  | rn (dss : List (List D))
  | rp (ds : List D) (d : D)
  | bk (ρ : SEnv)
  | ct (ρ : SEnv)
def Post (K : PySem.W.Frag) (H0 : Hp) (O0 : List Addr) (G : Hp) (E : Ends) : Out → Prop
  | .nx ρ => ∀ σ H, StR K H0 O0 G σ H ρ → E.nx σ H
  | .rt d => ∀ v H', Same H0 H' → Rep K (hid O0 H') v d → E.rt v H'
  | .rl ds => ∀ a xs H', Same H0 H' → H0 a = none → H' a = some (.lst xs) → RepAll K (hid (a :: O0) H') xs ds → E.rt (.ref a) H'
  | .rn dss => ∀ a ps H', Same H0 H' → (a :: ps).Nodup → (∀ b ∈ a :: ps, H0 b = none) → H' a = some (.lst (ps.map V.ref)) → Inner K (hid ((a :: ps) ++ O0) H') H' ps dss → E.rt (.ref a) H'
  | .rp ds d => ∀ p a xs v H', Same H0 H' → H0 a = none → H0 p = none → H' a = some (.lst xs) → H' p = some (.tup [.ref a, v]) → RepAll K (hid (a :: O0) H') xs ds → Rep K (hid (a :: O0) H') v d → E.rt (.ref p) H'
  | .bk ρ => ∀ σ H, StR K H0 O0 G σ H ρ → E.bk σ H
  | .ct ρ => ∀ σ H, StR K H0 O0 G σ H ρ → E.ct σ H
abbrev PSt := SEnv → Option Out
def PuS (K : PySem.W.Frag) (ts : TS) (F : PSt) : Prop := ∀ (H0 : Hp) (O0 : List Addr) (G : Hp) (σ : St) (H : Hp) (ρ : SEnv) (o : Out) (E : Ends), OkO O0 H0 → StR K H0 O0 G σ H ρ → F ρ = some o → Post K H0 O0 G E o → ts E σ H
def PuV (K : PySem.W.Frag) (te : TE) (vf : SEnv → Option Sl) : Prop := ∀ (H0 : Hp) (O0 : List Addr) (G : Hp) (σ : St) (H : Hp) (ρ : SEnv) (s : Sl) (Q : VK), OkO O0 H0 → StR K H0 O0 G σ H ρ → vf ρ = some s →
  (∀ v H', Same H H' → StV K H0 O0 G σ H' ρ v s → Q v H') → te σ H Q
structure JS (X : Cx) (K : PySem.W.Frag) (st : Stmt) (ts : TS) (F : PSt) : Prop where
  pe : PS X st ts
  pu : PuS K ts F
structure JSs (X : Cx) (K : PySem.W.Frag) (st : List Stmt) (ts : TS) (F : PSt) : Prop where
  pe : PSs X st ts
  pu : PuS K ts F
mutual
def flatD : D → Bool
  | .list _ => false
  | .dict _ => false
  | .tuple ds => flatAll ds
  | _ => true
def flatAll : List D → Bool
  | [] => true
  | d :: ds => flatD d && flatAll ds
end
section
variable {K : PySem.W.Frag} {O0 O : List Addr} {H : Hp}
mutual
theorem flat_rep (h : ∀ a ∈ O, ∃ xs, H a = some (.lst xs)) : ∀ {v : V} {d : D}, Rep K (hid O0 H) v d → flatD d = true → Rep K (hid (O0 ++ O) H) v d
  | _, _, .non, _ => .non
  | _, _, .bl b, _ => .bl b
  | _, _, .int i, _ => .int i
  | _, _, .str x, _ => .str x
  | _, _, .lst _ _, f => by simp [flatD] at f
  | _, _, .tup (a := a) q r, f => by
    have hr := flat_reps h r (by simpa [flatD] using f)
    refine .tup ?_ hr
    rcases q with (q | ⟨o, q⟩) | q
    · obtain ⟨n, q⟩ := hid_some q
      have na : a ∉ O := fun z => by
        obtain ⟨xs, e⟩ := h a z
        rw [q] at e
        cases e
      exact .inl (.inl (by rw [hid_out (by simp [n, na])]; exact q))
    · obtain ⟨n, q⟩ := hid_some q
      have na : a ∉ O := fun z => by
        obtain ⟨xs, e⟩ := h a z
        rw [q] at e
        cases e
      exact .inl (.inr ⟨o, by rw [hid_out (by simp [n, na])]; exact q⟩)
    · exact .inr q
theorem flat_reps (h : ∀ a ∈ O, ∃ xs, H a = some (.lst xs)) : ∀ {vs : List V} {ds : List D}, RepAll K (hid O0 H) vs ds → flatAll ds = true → RepAll K (hid (O0 ++ O) H) vs ds
  | _, _, .nil, _ => .nil
  | _, _, .cons r t, f => by
    have f' := Bool.and_eq_true_iff.mp (show (flatD _ && flatAll _) = true from f)
    exact .cons (flat_rep h r f'.1) (flat_reps h t f'.2)
end
end
def vF (f : PF) : SEnv → Option Sl := fun ρ => (f (full ρ)).bind fun d => if flatD d = true then some (.sh d) else none
def vS (f : PF) : SEnv → Option Sl := fun ρ => (f (masked ρ)).bind fun d => some (.sh d)
def vL (f : PAs) : SEnv → Option Sl := fun ρ => (f (masked ρ)).bind fun ds => some (.ow ds)
def vLF (f : PAs) : SEnv → Option Sl := fun ρ => (f (full ρ)).bind fun ds => if flatAll ds = true then some (.ow ds) else none
section
variable {K : PySem.W.Frag} {te : TE} {f : PF} {fl : PAs}
theorem StR.envF {H0 : Hp} {O0 : List Addr} {G : Hp} {σ : St} {H : Hp} {ρ : SEnv} (ok : OkO O0 H0) (t : StR K H0 O0 G σ H ρ) : OkO O0 H ∧ EnvR K (hid O0 H) σ (full ρ) := by
  obtain ⟨O, s0, n, nd, g, sl⟩ := t.ex
  refine ⟨ok.mono s0, sl.full (hid_sub fun b hb => List.mem_append_left _ hb) fun a ha o e => ?_⟩
  rw [hid_out (ok.fresh (n a ha))]
  exact e
theorem pv_S (h : PuE K te f) : PuV K te (vS f) := by
  intro H0 O0 G σ H ρ s Q ok t hf q
  obtain ⟨d, e1, hf⟩ := bind_some' hf
  cases hf
  obtain ⟨O, s0, n, nd, g, sl⟩ := t.ex
  refine h (O0 ++ O) σ H (masked ρ) d Q (okAll ok s0 sl) sl.mask e1 fun v H' s' r => q v H' s' ⟨O, [], s0.trans s', n, nd, g.trans (hid_same s'), sl.mono (hid_same s') fun a _ o e => s' a o e, rfl, r⟩
theorem pv_F (h : PuE K te f) : PuV K te (vF f) := by
  intro H0 O0 G σ H ρ s Q ok t hf q
  obtain ⟨d, e1, hf⟩ := bind_some' hf
  by_cases hc : flatD d = true
  · rw [if_pos hc] at hf
    cases hf
    have ⟨o1, e2⟩ := t.envF ok
    obtain ⟨O, s0, n, nd, g, sl⟩ := t.ex
    refine h O0 σ H (full ρ) d Q o1 e2 e1 fun v H' s' r => ?_
    have sl' := sl.mono (hid_same (O := O0 ++ O) s') fun a _ o e => s' a o e
    exact q v H' s' ⟨O, [], s0.trans s', n, nd, g.trans (hid_same s'), sl', rfl, flat_rep sl'.mem r hc⟩
  · rw [if_neg hc] at hf
    cases hf
theorem hid_shift {O0 O : List Addr} {a : Addr} {H : Hp} : hid (a :: (O0 ++ O)) H = hid (O0 ++ ([a] ++ O)) H := by
  funext b
  by_cases h : b ∈ a :: (O0 ++ O)
  · rw [hid_in h, hid_in (by simp at h ⊢; rcases h with h | h | h <;> simp [h])]
  · rw [hid_out h, hid_out (by simp at h ⊢; exact ⟨h.2.1, h.1, h.2.2⟩)]
theorem pv_L (h : PuL K te fl) : PuV K te (vL fl) := by
  intro H0 O0 G σ H ρ s Q ok t hf q
  obtain ⟨d, e1, hf⟩ := bind_some' hf
  cases hf
  obtain ⟨O, s0, n, nd, g, sl⟩ := t.ex
  have okA := okAll ok s0 sl
  refine h (O0 ++ O) σ H (masked ρ) d Q okA sl.mask e1 fun a xs H' s' hn ha r => ?_
  have na : a ∉ O := fun z => okA.fresh hn (List.mem_append_right _ z)
  have big : Same (hid (O0 ++ O) H) (hid (O0 ++ ([a] ++ O)) H') := fun b o e => by
    obtain ⟨n1, e⟩ := hid_some e
    have nb : b ≠ a := ne_of_none e hn
    rw [hid_out (by simp at n1 ⊢; exact ⟨n1.1, nb, n1.2⟩)]
    exact s' b o e
  refine q (.ref a) H' s' ⟨O, [a], s0.trans s', n, nd, g.trans big, sl.mono big fun b _ o e => s' b o e, a, xs, rfl, rfl, na, s0.free hn, ha, ?_⟩
  rw [← hid_shift]
  exact r
theorem StR.evalF {H0 : Hp} {O0 : List Addr} {G : Hp} {σ : St} {H : Hp} {ρ : SEnv} {d : D} {Q : VK} (h : PuE K te f) (ok : OkO O0 H0) (t : StR K H0 O0 G σ H ρ) (e1 : f (L2.full ρ) = some d)
    (q : ∀ v H', Same H H' → StR K H0 O0 G σ H' ρ → Rep K (hid O0 H') v d → Q v H') : te σ H Q := by
  have ⟨o1, e2⟩ := t.envF ok
  exact h O0 σ H (L2.full ρ) d Q o1 e2 e1 fun v H' s' r => q v H' s' (t.grow s') r
theorem StR.same {H0 : Hp} {O0 : List Addr} {G : Hp} {σ : St} {H : Hp} {ρ : SEnv} (t : StR K H0 O0 G σ H ρ) : Same H0 H := by
  obtain ⟨O, s0, _⟩ := t.ex
  exact s0
end
def pNx : PSt := fun ρ => some (.nx ρ)
def pSq (F F' : PSt) : PSt := fun ρ => (F ρ).bind fun o => match o with
  | .nx ρ' => F' ρ'
  | .rt d => some (.rt d)
  | .rl d => some (.rl d)
  | .rn d => some (.rn d)
  | .rp d e => some (.rp d e)
  | .bk ρ' => some (.bk ρ')
  | .ct ρ' => some (.ct ρ')
def pSet (i : Nat) (vf : SEnv → Option Sl) : PSt := fun ρ => (vf ρ).bind fun s => some (.nx (ρ.set i s))
def pDrop (f : PF) : PSt := fun ρ => (f (full ρ)).bind fun _ => some (.nx ρ)
def pRet (f : PF) : PSt := fun ρ => (f (full ρ)).bind fun d => some (.rt d)
def pRetL (f : PAs) : PSt := fun ρ => (f (full ρ)).bind fun d => some (.rl d)
def asOw : Sl → Option (List D)
  | .ow ds => some ds
  | _ => none
def asSh : Sl → Option D
  | .sh d => some d
  | _ => none
def pRetO (i : Nat) : PSt := fun ρ => (ρ[i]?).bind fun s => (asOw s).bind fun ds => some (.rl ds)
def pRetN : PSt := fun _ => some (.rt .none)
def pIfS (c : PB) (F F' : PSt) : PSt := fun ρ => (c (full ρ)).bind fun b => if b = true then F ρ else F' ρ
def pApp (i : Nat) (vf : SEnv → Option Sl) : PSt := fun ρ => (vf ρ).bind fun s => (asSh s).bind fun d => (ρ[i]?).bind fun s' => (asOw s').bind fun ds => if fits ds.length = true then some (.nx (ρ.set i (.ow (ds ++ [d])))) else none
def pSetI (i : Nat) (fi : PF) (vf : SEnv → Option Sl) : PSt := fun ρ => (vf ρ).bind fun s => (asSh s).bind fun d => (fi (full ρ)).bind fun k => (asI k).bind fun k => (ρ[i]?).bind fun s' => (asOw s').bind fun ds => (ixN ds.length k).bind fun j => some (.nx (ρ.set i (.ow (ds.set j d))))
def pClear (i : Nat) : PSt := fun ρ => (ρ[i]?).bind fun s' => (asOw s').bind fun _ => some (.nx (ρ.set i (.ow [])))
def relS : Sl → Sl
  | .ow ds => .sh (.list ds)
  | s => s
def relAt (i : Nat) (ρ : SEnv) : SEnv := ρ.modify i relS
def pRel (i : Nat) (F : PSt) : PSt := fun ρ => F (relAt i ρ)
section
variable {X : Cx} {K : PySem.W.Frag} {st : Stmt} {rest : List Stmt} {t u : TS} {F F' : PSt} {pos : Pos}
theorem jss_nil : JSs X K [] tNext pNx := ⟨pss_nil, by
  intro H0 O0 G σ H ρ o E ok s hf q
  cases hf
  exact q σ H s⟩
theorem jss_one (h : JS X K st t F) : JSs X K [st] t F := ⟨pss_one h.pe, h.pu⟩
theorem jss_cons (h1 : JS X K st t F) (h2 : JSs X K rest u F') : JSs X K (st :: rest) (tSeq t u) (pSq F F') := ⟨pss_cons h1.pe h2.pe, by
  intro H0 O0 G σ H ρ o E ok s hf q
  obtain ⟨o1, e1, hf⟩ := bind_some' hf
  refine h1.pu H0 O0 G σ H ρ o1 _ ok s e1 ?_
  cases o1 with
  | nx ρ' => exact fun σ' H' s' => h2.pu H0 O0 G σ' H' ρ' o E ok s' hf q
  | rt d => cases hf; exact q
  | rl d => cases hf; exact q
  | rn d => cases hf; exact q
  | rp d e => cases hf; exact q
  | bk d => cases hf; exact q
  | ct d => cases hf; exact q⟩
theorem js_set' {te : TE} {i : Nat} {vf : SEnv → Option Sl} (h : PS X st (tAsg te (gName i))) (pv : PuV K te vf) : JS X K st (tAsg te (gName i)) (pSet i vf) := ⟨h, by
  intro H0 O0 G σ H ρ o E ok s hf q
  obtain ⟨v, e1, hf⟩ := bind_some' hf
  cases hf
  exact pv H0 O0 G σ H ρ v _ ok s e1 fun x H' s' sv => q _ H' (sv.set i)⟩
section
variable {i : Nat} {x : Str} {e : Expr} {te : TE} {pos' : Pos}
theorem js_setF {f : PF} (hN : X.N.Nodup) (hi : X.N[i]? = some x) (hx : Loc X.env.scope x) (he : JE X K e te f) (hs : swapsWith e (some (.Name x pos')) pos.line X.env = pure false := by rfl) (hf : X.fn x = true ∨ X.env.scope.names.lookup x = some .local := by first | exact .inl rfl | exact .inr rfl | assumption) :
    JS X K (.Assign [.Name x pos'] e pos) (tAsg te (gName i)) (pSet i (vF f)) := js_set' (ps_set hN hi hx he.pe hs hf) (pv_F he.pu)
theorem js_setS {f : PF} (hN : X.N.Nodup) (hi : X.N[i]? = some x) (hx : Loc X.env.scope x) (he : JE X K e te f) (hs : swapsWith e (some (.Name x pos')) pos.line X.env = pure false := by rfl) (hf : X.fn x = true ∨ X.env.scope.names.lookup x = some .local := by first | exact .inl rfl | exact .inr rfl | assumption) :
    JS X K (.Assign [.Name x pos'] e pos) (tAsg te (gName i)) (pSet i (vS f)) := js_set' (ps_set hN hi hx he.pe hs hf) (pv_S he.pu)
theorem js_setL {f : PAs} (hN : X.N.Nodup) (hi : X.N[i]? = some x) (hx : Loc X.env.scope x) (he : JL X K e te f) (hs : swapsWith e (some (.Name x pos')) pos.line X.env = pure false := by rfl) (hf : X.fn x = true ∨ X.env.scope.names.lookup x = some .local := by first | exact .inl rfl | exact .inr rfl | assumption) :
    JS X K (.Assign [.Name x pos'] e pos) (tAsg te (gName i)) (pSet i (vL f)) := js_set' (ps_set hN hi hx he.pe hs hf) (pv_L he.pu)
end
theorem js_ret {e : Expr} {te : TE} {f : PF} (he : JE X K e te f) : JS X K (.Return (some e) pos) (tRet te) (pRet f) := ⟨ps_ret he.pe, by
  intro H0 O0 G σ H ρ o E ok s hf q
  obtain ⟨d, e1, hf⟩ := bind_some' hf
  cases hf
  exact s.evalF he.pu ok e1 fun v H' s' t' r => q v H' t'.same r⟩
theorem js_retL {e : Expr} {te : TE} {f : PAs} (he : JL X K e te f) : JS X K (.Return (some e) pos) (tRet te) (pRetL f) := ⟨ps_ret he.pe, by
  intro H0 O0 G σ H ρ o E ok s hf q
  obtain ⟨d, e1, hf⟩ := bind_some' hf
  cases hf
  have ⟨o1, e2⟩ := s.envF ok
  exact he.pu O0 σ H (full ρ) d _ o1 e2 e1 fun a xs H' s' hn ha r => q a xs H' (s.same.trans s') (s.same.free hn) ha r⟩
theorem js_retO (i : Nat) {x : Str} {p : Pos} (hN : X.N[i]? = some x := by rfl) (hv : Vis X.env.scope x := by first | exact Or.inl rfl | exact Or.inr (Or.inl rfl) | exact Or.inr (Or.inr rfl)) (hd : (x == ("__debug__" : Str)) = false := by decide)
    (hcd : (x == ("__classdict__" : Str)) = false := by decide) : JS X K (.Return (some (.Name x p)) pos) (tRet (tVar i)) (pRetO i) := ⟨ps_ret (pe_var hN hv hd hcd), by
  intro H0 O0 G σ H ρ o E ok s hf q
  obtain ⟨sl, e1, hf⟩ := bind_some' hf
  obtain ⟨ds, e2, hf⟩ := bind_some' hf
  cases hf
  cases sl with
  | ow es =>
    cases e2
    obtain ⟨O, s0, n, nd, g, sl⟩ := s.ex
    obtain ⟨a, xs, h1, h2, h3, h4⟩ := sl.getOw e1
    refine ⟨_, h1, q a xs H s0 (n a h2) h3 (h4.mono (hid_sub fun b hb => ?_))⟩
    rcases List.mem_cons.mp hb with rfl | hb
    · exact List.mem_append_right _ h2
    · exact List.mem_append_left _ hb
  | _ => cases e2⟩
theorem js_if {c : Expr} {a b : List Stmt} {tc : TT} {pc : PB} (hc : JT X K c tc pc) (ha : JSs X K a t F) (hb : JSs X K b u F') : JS X K (.If c a b pos) (tIfS tc t u) (pIfS pc F F') := ⟨ps_if hc.pe ha.pe hb.pe, by
  intro H0 O0 G σ H ρ o E ok s hf q
  obtain ⟨k, e1, hf⟩ := bind_some' hf
  have ⟨o1, e2⟩ := s.envF ok
  refine hc.pu O0 σ H (full ρ) k _ o1 e2 e1 fun H' s' => ?_
  cases k with
  | true =>
    rw [if_pos rfl] at hf ⊢
    exact ha.pu H0 O0 G σ H' ρ o E ok (s.grow s') hf q
  | false =>
    rw [if_neg Bool.false_ne_true] at hf ⊢
    exact hb.pu H0 O0 G σ H' ρ o E ok (s.grow s') hf q⟩
end
end L2
set_option maxHeartbeats 4000000
namespace L2
open PySem PySem.Spec PyProof.Rows
structure StVs (K : PySem.W.Frag) (H0 : Hp) (O0 : List Addr) (G : Hp) (σ : St) (H : Hp) (ρ : SEnv) (vs : List V) (ds : List D) : Prop where
  ex : ∃ O, Same H0 H ∧ (∀ a ∈ O, H0 a = none) ∧ O.Nodup ∧ Same G (hid (O0 ++ O) H) ∧ Slots K (hid (O0 ++ O) H) H σ ρ O ∧ RepAll K (hid (O0 ++ O) H) vs ds
def PuGS (K : PySem.W.Frag) (g : TG) (bs : D → SEnv → Option SEnv) : Prop := ∀ (H0 : Hp) (O0 : List Addr) (G : Hp) (σ : St) (H : Hp) (ρ : SEnv) (v : V) (d : D) (ρ' : SEnv) (Q : St → Hp → Prop), StV K H0 O0 G σ H ρ v (.sh d) → bs d ρ = some ρ' →
  (∀ σ', StR K H0 O0 G σ' H ρ' → Q σ' H) → g v σ H Q
structure JGS (X : Cx) (K : PySem.W.Frag) (tg : Expr) (g : TG) (bs : D → SEnv → Option SEnv) : Prop where
  pe : PG X tg g
  pu : PuGS K g bs
def bs1 (i : Nat) : D → SEnv → Option SEnv := fun d ρ => some (ρ.set i (.sh d))
def bs2 (i j : Nat) : D → SEnv → Option SEnv
  | .tuple [a, b], ρ => some ((ρ.set i (.sh a)).set j (.sh b))
  | _, _ => none
section
variable {X : Cx} {K : PySem.W.Frag} {pos : Pos}
theorem StVs.set {H0 : Hp} {O0 : List Addr} {G : Hp} {σ : St} {H : Hp} {ρ : SEnv} {v : V} {d : D} {vs : List V} {ds : List D} (t : StVs K H0 O0 G σ H ρ (v :: vs) (d :: ds)) (i : Nat) : StVs K H0 O0 G (σ.set i (some v)) H (ρ.set i (.sh d)) vs ds := by
  obtain ⟨O, s0, n, nd, g, sl, r⟩ := t.ex
  cases r with
  | cons r rs =>
    obtain ⟨O', hs, sl'⟩ := sl.setSh r i
    have sub : ∀ b, b ∈ O0 ++ O' → b ∈ O0 ++ O := fun b hb => (List.mem_append.mp hb).elim (fun z => List.mem_append_left _ z) fun z => List.mem_append_right _ (hs.subset z)
    exact ⟨O', s0, fun a ha => n a (hs.subset ha), hs.nodup nd, g.trans (hid_sub sub), sl'.mono (hid_sub sub) fun _ _ _ e => e, rs.mono (hid_sub sub)⟩
theorem StVs.str {H0 : Hp} {O0 : List Addr} {G : Hp} {σ : St} {H : Hp} {ρ : SEnv} {vs : List V} {ds : List D} (t : StVs K H0 O0 G σ H ρ vs ds) : StR K H0 O0 G σ H ρ := by
  obtain ⟨O, s0, n, nd, g, sl, r⟩ := t.ex
  exact ⟨O, s0, n, nd, g, sl⟩
theorem StV.parts {H0 : Hp} {O0 : List Addr} {G : Hp} {σ : St} {H : Hp} {ρ : SEnv} {v : V} {ds : List D} (t : StV K H0 O0 G σ H ρ v (.sh (.tuple ds))) : ∃ a xs, v = .ref a ∧ SqT K H a xs ∧ StVs K H0 O0 G σ H ρ xs ds := by
  obtain ⟨O, P, s0, n, nd, g, sl, rfl, r⟩ := t.ex
  cases r with
  | tup q r' => exact ⟨_, _, rfl, hid_le.seqT q, O, s0, n, nd, g, sl, r'⟩
theorem StVs.len {H0 : Hp} {O0 : List Addr} {G : Hp} {σ : St} {H : Hp} {ρ : SEnv} {vs : List V} {ds : List D} (t : StVs K H0 O0 G σ H ρ vs ds) : vs.length = ds.length := by
  obtain ⟨O, s0, n, nd, g, sl, r⟩ := t.ex
  exact r.length
theorem jgs_name {i : Nat} {x : Str} (hN : X.N.Nodup) (hi : X.N[i]? = some x) (hx : Loc X.env.scope x) (hf : X.fn x = true ∨ X.env.scope.names.lookup x = some .local := by first | exact .inl rfl | exact .inr rfl | assumption) : JGS X K (.Name x pos) (gName i) (bs1 i) := ⟨pg_name hN hi hx hf, by
  intro H0 O0 G σ H ρ v d ρ' Q t hb q
  cases hb
  exact q _ (t.set i)⟩
theorem jgs_two {i j : Nat} {x y : Str} {p1 p2 : Pos} {k : Nat} (hK : X.K = K) (hc : X.calm = true) (hN : X.N.Nodup) (hi : X.N[i]? = some x) (hx : Loc X.env.scope x) (hj : X.N[j]? = some y) (hy : Loc X.env.scope y)
    (hf : X.fn x = true ∨ X.env.scope.names.lookup x = some .local := by first | exact .inl rfl | exact .inr rfl | assumption) (hf2 : X.fn y = true ∨ X.env.scope.names.lookup y = some .local := by first | exact .inl rfl | exact .inr rfl | assumption)
    (h1 : (assignEach [.Name x p1, .Name y p2] X.env).map (·.2) = assign (.Name x p1) X.env :: (assignEach [.Name y p2] X.env).map (·.2) := by rfl) (h2 : (assignEach [.Name y p2] X.env).map (·.2) = assign (.Name y p2) X.env :: (assignEach [] X.env).map (·.2) := by rfl)
    (hn : (assignEach [.Name x p1, .Name y p2] X.env).length = 2 := by rfl) (hst : (assignEach [.Name x p1, .Name y p2] X.env).findIdx? (·.1) = none := by rfl) :
    JGS X K (.Tuple [.Name x p1, .Name y p2] k pos) (gTup K 2 (gCons (gName i) (gCons (gName j) gNil))) (bs2 i j) := ⟨by
  subst hK
  exact pg_tup hc (pgs_cons (pg_name hN hi hx hf) (pgs_cons (pg_name hN hj hy hf2) pgs_nil h2) h1) hn hst, by
  intro H0 O0 G σ H ρ v d ρ' Q t hb q
  unfold bs2 at hb
  split at hb
  · rename_i a b _
    cases hb
    obtain ⟨p, xs, rfl, hq, ts⟩ := t.parts
    have hl := ts.len
    match xs, hl with
    | [v1, v2], _ => exact ⟨p, _, rfl, hq, rfl, _, _, rfl, _, _, rfl, rfl, q _ ((ts.set i).set j).str⟩
  · cases hb⟩
def pAsg (bs : D → SEnv → Option SEnv) (vf : SEnv → Option Sl) : PSt := fun ρ => (vf ρ).bind fun s => (asSh s).bind fun d => (bs d ρ).bind fun ρ' => some (.nx ρ')
theorem asSh_eq {s : Sl} {d : D} (h : asSh s = some d) : s = .sh d := by
  cases s with
  | sh e => cases h; rfl
  | _ => cases h
theorem asOw_eq {s : Sl} {d : List D} (h : asOw s = some d) : s = .ow d := by
  cases s with
  | ow e => cases h; rfl
  | _ => cases h
theorem js_asg {tg e : Expr} {te : TE} {g : TG} {bs : D → SEnv → Option SEnv} {vf : SEnv → Option Sl} (he : PE X e te) (pv : PuV K te vf) (hg : JGS X K tg g bs) (hs : swapsWithSole [tg] e pos.line X.env = pure false := by rfl) (hw : swappedStores [tg] e X.env = pure none := by rfl)
    (h1 : (assignEach [tg] X.env).map (·.2) = [assign tg X.env] := by rfl) : JS X K (.Assign [tg] e pos) (tAsg te g) (pAsg bs vf) := ⟨ps_asg he hg.pe hs hw h1, by
  intro H0 O0 G σ H ρ o E ok s hf q
  obtain ⟨sl, e1, hf⟩ := bind_some' hf
  obtain ⟨d, e2, hf⟩ := bind_some' hf
  obtain ⟨ρ', e3, hf⟩ := bind_some' hf
  cases hf
  cases asSh_eq e2
  exact pv H0 O0 G σ H ρ _ _ ok s e1 fun v H' s' sv => hg.pu H0 O0 G σ H' ρ v d ρ' _ sv e3 fun σ' t => q σ' H' t⟩
theorem js_asgS {tg e : Expr} {te : TE} {f : PF} {g : TG} {bs : D → SEnv → Option SEnv} (he : JE X K e te f) (hg : JGS X K tg g bs) (hs : swapsWithSole [tg] e pos.line X.env = pure false := by rfl) (hw : swappedStores [tg] e X.env = pure none := by rfl)
    (h1 : (assignEach [tg] X.env).map (·.2) = [assign tg X.env] := by rfl) : JS X K (.Assign [tg] e pos) (tAsg te g) (pAsg bs (vS f)) := js_asg he.pe (pv_S he.pu) hg hs hw h1
def forP (bs : D → SEnv → Option SEnv) (F : PSt) : List D → SEnv → Option Out
  | [], ρ => some (.nx ρ)
  | d :: ds, ρ => (bs d ρ).bind fun ρ1 => (F ρ1).bind fun o => match o with
    | .nx ρ' => forP bs F ds ρ'
    | .ct ρ' => forP bs F ds ρ'
    | .bk ρ' => some (.nx ρ')
    | .rt d => some (.rt d)
    | .rl d => some (.rl d)
    | .rn d => some (.rn d)
    | .rp d e => some (.rp d e)
def pFor (fi : PAs) (bs : D → SEnv → Option SEnv) (F : PSt) : PSt := fun ρ => (fi (masked ρ)).bind fun items => forP bs F items ρ
theorem StR.ghost {H0 : Hp} {O0 : List Addr} {G G1 : Hp} {σ : St} {H : Hp} {ρ : SEnv} (t : StR K H0 O0 G1 σ H ρ) (g : Same G G1) : StR K H0 O0 G σ H ρ := by
  obtain ⟨O, s0, n, nd, g1, sl⟩ := t.ex
  exact ⟨O, s0, n, nd, g.trans g1, sl⟩
theorem pu_for {wi : TI} {g : TG} {tb : TS} {fi : PAs} {bs : D → SEnv → Option SEnv} {F : PSt} (hi : PuI K wi fi) (hg : PuGS K g bs) (hb : PuS K tb F) : PuS K (tFor wi g tb) (pFor fi bs F) := by
  intro H0 O0 G σ H ρ o E ok s hf q
  obtain ⟨items, e1, hf⟩ := bind_some' hf
  obtain ⟨O, s0, n, nd, gg, sl⟩ := s.ex
  refine hi (O0 ++ O) σ H (masked ρ) items _ (okAll ok s0 sl) sl.mask e1 fun J H1 s1 it => ?_
  have t1 : StR K H0 O0 (hid (O0 ++ O) H1) σ H1 ρ := ⟨O, s0.trans s1, n, nd, Same.refl _, sl.mono (hid_same s1) fun a _ o e => s1 a o e⟩
  have gG : Same G (hid (O0 ++ O) H1) := gg.trans (hid_same s1)
  refine ⟨fun i m σ H => m = items.length - i ∧ i ≤ items.length ∧ ∃ ρi, StR K H0 O0 (hid (O0 ++ O) H1) σ H ρi ∧ forP bs F (items.drop i) ρi = some o, ⟨items.length, by simp, Nat.zero_le _, ρ, t1, by simpa using hf⟩, ?_⟩
  rintro i m σ' H' ⟨rfl, hil, ρi, ti, hfi⟩
  obtain ⟨O', s0', n', nd', g', sl'⟩ := ti.ex
  have I := it (O0 ++ O') H' (okAll ok s0' sl') g'
  by_cases hlt : i < items.length
  · refine .inr ⟨I.1 i hlt, fun σ' H' => ∃ ρ', StR K H0 O0 (hid (O0 ++ O) H1) σ' H' ρ' ∧ forP bs F (items.drop (i + 1)) ρ' = some o, fun σ2 H2 ⟨ρ', t', h'⟩ => ⟨items.length - (i + 1), by omega, rfl, hlt, ρ', t', h'⟩, fun x H'' y => ?_⟩
    obtain ⟨d, ed, s'', rd⟩ := I.2.1 i x H'' hlt y
    have hdrop : items.drop i = d :: items.drop (i + 1) := by
      rw [List.drop_eq_getElem_cons hlt]
      congr 1
      exact Option.some.inj ((List.getElem?_eq_getElem hlt).symm.trans ed)
    rw [hdrop] at hfi
    obtain ⟨ρ1, eb, hfi⟩ := bind_some' hfi
    obtain ⟨o1, eo, hfi⟩ := bind_some' hfi
    have sv : StV K H0 O0 (hid (O0 ++ O) H1) σ' H'' ρi x (.sh d) := ⟨O', [], s0'.trans s'', n', nd', g'.trans (hid_same s''), sl'.mono (hid_same s'') fun a _ o e => s'' a o e, rfl, rd⟩
    refine hg H0 O0 _ σ' H'' ρi x d ρ1 _ sv eb fun σ2 t2 => ?_
    refine hb H0 O0 _ σ2 H'' ρ1 o1 _ ok t2 eo ?_
    cases o1 with
    | nx ρ' => exact fun σ3 H3 t3 => ⟨ρ', t3, hfi⟩
    | ct ρ' => exact fun σ3 H3 t3 => ⟨ρ', t3, hfi⟩
    | bk ρ' => cases hfi; exact fun σ3 H3 t3 => q σ3 H3 (t3.ghost gG)
    | rt d => cases hfi; exact q
    | rl d => cases hfi; exact q
    | rn d => cases hfi; exact q
    | rp d e => cases hfi; exact q
  · have e : i = items.length := by omega
    subst e
    rw [List.drop_length] at hfi
    cases hfi
    exact .inl ⟨I.2.2, q σ' H' (ti.ghost gG)⟩
theorem js_for {tg iter : Expr} {body : List Stmt} {wi : TI} {g : TG} {tb : TS} {fi : PAs} {bs : D → SEnv → Option SEnv} {F : PSt} (hp : PassesOwn (model X.prog X.w) X.A X.env X.xe) (hc : X.calm = true) (hi : JI X K tg iter wi fi) (hg : JGS X K tg g bs) (hb : JSs X K body tb F)
    (hs : ∀ x, foldedSetIterable iter X.env x = pure x := by intro _; rfl) : JS X K (.For tg iter body [] pos) (tFor wi g tb) (pFor fi bs F) := ⟨ps_for hp hc hi.pe hg.pe hb.pe hs, pu_for hi.pu hg.pu hb.pu⟩
def whileP (c : PB) (F : PSt) : Nat → PSt
  | 0 => fun _ => none
  | n + 1 => fun ρ => (c (full ρ)).bind fun b => if b = true then (F ρ).bind fun o => match o with
      | .nx ρ' => whileP c F n ρ'
      | .ct ρ' => whileP c F n ρ'
      | .bk ρ' => some (.nx ρ')
      | .rt d => some (.rt d)
      | .rl d => some (.rl d)
      | .rn d => some (.rn d)
      | .rp d e => some (.rp d e)
    else some (.nx ρ)
theorem pu_while {c : TT} {tb : TS} {pc : PB} {F : PSt} (n : Nat) (hc : PuT K c pc) (hb : PuS K tb F) : PuS K (tWhile c tb) (whileP pc F n) := by
  intro H0 O0 G σ H ρ o E ok s hf q
  refine ⟨fun m σ H => ∃ ρ, StR K H0 O0 G σ H ρ ∧ whileP pc F m ρ = some o, ⟨n, ρ, s, hf⟩, ?_⟩
  rintro m σ' H' ⟨ρ', t, hf⟩
  cases m with
  | zero => cases hf
  | succ m =>
    obtain ⟨b, e1, hf⟩ := bind_some' hf
    have ⟨o1, e2⟩ := t.envF ok
    refine hc O0 σ' H' (full ρ') b _ o1 e2 e1 fun H1 s1 => ?_
    have t1 := t.grow s1
    cases b with
    | true =>
      rw [if_pos rfl] at hf ⊢
      obtain ⟨o2, eo, hf⟩ := bind_some' hf
      refine ⟨fun σ2 H2 => ∃ ρ2, StR K H0 O0 G σ2 H2 ρ2 ∧ whileP pc F m ρ2 = some o, fun σ2 H2 z => ⟨m, Nat.lt_succ_self m, z⟩, ?_⟩
      refine hb H0 O0 G σ' H1 ρ' o2 _ ok t1 eo ?_
      cases o2 with
      | nx ρ2 => exact fun σ3 H3 t3 => ⟨ρ2, t3, hf⟩
      | ct ρ2 => exact fun σ3 H3 t3 => ⟨ρ2, t3, hf⟩
      | bk ρ2 => cases hf; exact fun σ3 H3 t3 => q σ3 H3 t3
      | rt d => cases hf; exact q
      | rl d => cases hf; exact q
      | rn d => cases hf; exact q
      | rp d e => cases hf; exact q
    | false =>
      rw [if_neg Bool.false_ne_true] at hf ⊢
      cases hf
      exact q σ' H1 t1
theorem js_while {c : Expr} {body : List Stmt} {tc : TT} {tb : TS} {pc : PB} {F : PSt} (n : Nat) (hp : PassesOwn (model X.prog X.w) X.A X.env X.xe) (hc : JT X K c tc pc) (hb : JSs X K body tb F) : JS X K (.While c body [] pos) (tWhile tc tb) (whileP pc F n) := ⟨ps_while hp hc.pe hb.pe, pu_while n hc.pu hb.pu⟩
theorem StR.write {H0 : Hp} {O0 : List Addr} {G : Hp} {σ : St} {H : Hp} {ρ : SEnv} {v : V} {d : D} {i : Nat} {ds : List D} (t : StV K H0 O0 G σ H ρ v (.sh d)) (hi : ρ[i]? = some (.ow ds)) :
    ∃ a xs, σ[i]? = some (some (.ref a)) ∧ H a = some (.lst xs) ∧ xs.length = ds.length ∧ StR K H0 O0 G σ (upd H a (.lst (xs ++ [v]))) (ρ.set i (.ow (ds ++ [d]))) ∧ (∀ j, StR K H0 O0 G σ (upd H a (.lst (xs.set j v))) (ρ.set i (.ow (ds.set j d)))) := by
  obtain ⟨O, P, s0, n, nd, g, sl, rfl, r⟩ := t.ex
  obtain ⟨a, xs, h1, h2, h3, h4⟩ := sl.getOw hi
  have s0' : ∀ ys, Same H0 (upd H a (.lst ys)) := fun ys b o e => by
    rw [upd_ne (ne_of_none e (n a h2))]
    exact s0 b o e
  have hh : ∀ ys, hid (O0 ++ ([] ++ O)) (upd H a (.lst ys)) = hid (O0 ++ ([] ++ O)) H := fun ys => hid_upd (by simp [h2])
  refine ⟨a, xs, h1, h3, h4.length, ⟨O, s0' _, n, nd, ?_, ?_⟩, fun j => ⟨O, s0' _, n, nd, ?_, ?_⟩⟩
  · have := hh (xs ++ [v]); simp only [List.nil_append] at this g ⊢; rw [this]; exact g
  · have := sl.write (h4.append (.cons r .nil)) nd hi h1; have e := hh (xs ++ [v]); simp only [List.nil_append] at this e ⊢; rw [e]; exact this
  · have := hh (xs.set j v); simp only [List.nil_append] at this g ⊢; rw [this]; exact g
  · have := sl.write (h4.set r j) nd hi h1; have e := hh (xs.set j v); simp only [List.nil_append] at this e ⊢; rw [e]; exact this
theorem StR.getOw {H0 : Hp} {O0 : List Addr} {G : Hp} {σ : St} {H : Hp} {ρ : SEnv} {i : Nat} {ds : List D} (t : StR K H0 O0 G σ H ρ) (hi : ρ[i]? = some (.ow ds)) : ∃ a xs, σ[i]? = some (some (.ref a)) ∧ H a = some (.lst xs) ∧ xs.length = ds.length := by
  obtain ⟨O, s0, n, nd, g, sl⟩ := t.ex
  obtain ⟨a, xs, h1, h2, h3, h4⟩ := sl.getOw hi
  exact ⟨a, xs, h1, h3, h4.length⟩
theorem js_app (i : Nat) {x : Str} {e : Expr} {te : TE} {vf : SEnv → Option Sl} {p apos cpos : Pos} (he : PE X e te) (pv : PuV K te vf) (hK : X.K = K) (hN : X.N[i]? = some x := by rfl) (hv : Vis X.env.scope x := by first | exact Or.inl rfl | exact Or.inr (Or.inl rfl) | exact Or.inr (Or.inr rfl)) (hd : (x == ("__debug__" : Str)) = false := by decide)
    (hcd : (x == ("__classdict__" : Str)) = false := by decide) (hbase : attributeBase (.Name x p) "append" X.env (eval (.Name x p) X.env) = eval (.Name x p) X.env := by rfl)
    (hfew : ((backTo cpos (starEach [e] X.env)).all (fun x => !x.1) && (backToKw cpos (keywordEach [] X.env)).all (fun x => x.1.isSome)
      && decide ([e].length + ([] : List Keyword).length + (if ([] : List Keyword).isEmpty then 0 else 1) < 30)) = true := by rfl)
    (hline : (apos.endLine == cpos.line) = true := by rfl) (hs : starEach [e] X.env = (false, eval e X.env) :: starEach [] X.env := by rfl) (hplain : (backTo cpos (starEach [] X.env)).any (·.1) = false := by rfl)
    (hs2 : swapsWith (.Call (.Attribute (.Name x p) "append" apos) [e] [] cpos) none pos.line X.env = pure false := by rfl) :
    JS X K (.Expr (.Call (.Attribute (.Name x p) "append" apos) [e] [] cpos) pos) (tDrop (tBM K "list" rAppend (tVar i) (tCons te tNil))) (pApp i vf) := ⟨by
  subst hK
  exact ps_expr (pe_bm PySem.F.plainAttrs_list PySem.F.slot_list_append PySem.F.type_list_append mt_append (pe_var hN hv hd hcd) (pa_cons he pa_nil hs) hbase hfew hline hs hplain) hs2, by
  intro H0 O0 G σ H ρ o E ok s hf q
  obtain ⟨sl, e1, hf⟩ := bind_some' hf
  obtain ⟨d, e2, hf⟩ := bind_some' hf
  obtain ⟨sl2, e3, hf⟩ := bind_some' hf
  obtain ⟨ds, e4, hf⟩ := bind_some' hf
  rw [asSh_eq e2] at e1
  rw [asOw_eq e4] at e3
  by_cases hc : fits ds.length = true
  · rw [if_pos hc] at hf
    cases hf
    obtain ⟨a, xs, h1, h2, h3⟩ := s.getOw e3
    refine ⟨_, h1, .inl ⟨rfl, _, SqL.of h2⟩, ?_⟩
    refine pv H0 O0 G σ H ρ _ _ ok s e1 fun v H' s' sv => ?_
    obtain ⟨a', xs', h1', h2', h3', t', _⟩ := StR.write sv e3
    rw [h1] at h1'
    cases h1'
    exact ⟨a, xs', v, rfl, rfl, h2', by rw [h3']; exact of_decide_eq_true hc, q σ _ t'⟩
  · rw [if_neg hc] at hf
    cases hf⟩
theorem js_setI (i : Nat) {x : Str} {e ix : Expr} {te ti : TE} {fi : PF} {vf : SEnv → Option Sl} {p spos : Pos} (he : PE X e te) (pv : PuV K te vf) (hi : JE X K ix ti fi) (hN : X.N[i]? = some x := by rfl) (hv : Vis X.env.scope x := by first | exact Or.inl rfl | exact Or.inr (Or.inl rfl) | exact Or.inr (Or.inr rfl)) (hd : (x == ("__debug__" : Str)) = false := by decide)
    (hcd : (x == ("__classdict__" : Str)) = false := by decide)
    (ha : ∀ v, assign (.Subscript (.Name x p) ix spos) X.env v = (do
      let ov ← holding [v] (eval (.Name x p) X.env)
      let iv ← holding [v, ov] (eval ix X.env)
      standAt spos
      holding [v, ov, iv] (setItem ov iv v)
      release [v, ov, iv] []) := by intro _; rfl)
    (hs : swapsWithSole [.Subscript (.Name x p) ix spos] e pos.line X.env = pure false := by rfl) (hw : swappedStores [.Subscript (.Name x p) ix spos] e X.env = pure none := by rfl)
    (h1 : (assignEach [.Subscript (.Name x p) ix spos] X.env).map (·.2) = [assign (.Subscript (.Name x p) ix spos) X.env] := by rfl) :
    JS X K (.Assign [.Subscript (.Name x p) ix spos] e pos) (tAsg te (gSub (tVar i) ti rSetL)) (pSetI i fi vf) := ⟨ps_asg he (pg_sub (pe_var hN hv hd hcd) hi.pe set_list ha) hs hw h1, by
  intro H0 O0 G σ H ρ o E ok s hf q
  obtain ⟨sl, e1, hf⟩ := bind_some' hf
  obtain ⟨d, e2, hf⟩ := bind_some' hf
  obtain ⟨kd, e5, hf⟩ := bind_some' hf
  obtain ⟨k, e6, hf⟩ := bind_some' hf
  obtain ⟨sl2, e3, hf⟩ := bind_some' hf
  obtain ⟨ds, e4, hf⟩ := bind_some' hf
  obtain ⟨j, e7, hf⟩ := bind_some' hf
  rw [asSh_eq e2] at e1
  rw [asOw_eq e4] at e3
  cases hf
  refine pv H0 O0 G σ H ρ _ _ ok s e1 fun v H' s' sv => ?_
  obtain ⟨a, xs, h1, h2, h3⟩ := sv.str.getOw e3
  refine ⟨_, h1, ?_⟩
  refine sv.str.evalF hi.pu ok e5 fun vi H2 s2 t2 ri => ?_
  obtain ⟨a', xs', h1', h2', h3', _, t'⟩ := StR.write (sv.grow s2) e3
  rw [h1] at h1'
  cases h1'
  cases ri with
  | int m => cases e6; exact ⟨a, xs', _, j, rfl, rfl, h2', by rw [h3']; exact e7, q σ _ (t' j)⟩
  | _ => cases e6⟩
end
section
variable {X : Cx} {K : PySem.W.Frag} {tg elt iter : Expr} {ifs : List Expr} {scope : Scope} {wi : TI} {g : TG} {tc : TT} {te : TE} {fi : PAs} {bd : D → PEnv → Option PEnv} {pt : PB} {fe : PF}
end
def startP (m : Nat) (ds : List D) : SEnv := ds.map .sh ++ List.replicate (m - ds.length) .no
def outD : Out → Option D
  | .rt d => some d
  | .rl ds => some (.list ds)
  | .rn dss => some (.list (dss.map .list))
  | .rp ds d => some (.tuple [.list ds, d])
  | .nx _ => some .none
  | _ => none
def outL : Out → Option (List D)
  | .rl ds => some ds
  | _ => none
def runF (n m : Nat) (F : PSt) : List D → Option D := fun ds => if ds.length = n then (F (startP m ds)).bind outD else none
def runL (n m : Nat) (F : PSt) : List D → Option (List D) := fun ds => if ds.length = n then (F (startP m ds)).bind outL else none
theorem takesF (n m : Nat) (F : PSt) : Takes n (runF n m F) := fun ds a h => by
  unfold runF at h
  by_cases hc : ds.length = n
  · exact hc
  · rw [if_neg hc] at h; cases h
theorem takesL (n m : Nat) (F : PSt) : Takes n (runL n m F) := fun ds a h => by
  unfold runL at h
  by_cases hc : ds.length = n
  · exact hc
  · rw [if_neg hc] at h; cases h
section
variable {P : Program} {w : World} {K : PySem.W.Frag} {mg : Str → Option Value} {base : Heap}
theorem slots_start {H : Hp} {O : List Addr} {vs : List V} {ds : List D} (r : RepAll K (hid O H) vs ds) (k : Nat) : Slots K (hid O H) H (vs.map some ++ List.replicate k none) (ds.map .sh ++ List.replicate k .no) [] := by
  induction r using RepAll.rec (motive_1 := fun _ _ _ => True) with
  | non => trivial
  | bl => trivial
  | int => trivial
  | str => trivial
  | lst => trivial
  | tup => trivial
  | dic => trivial
  | nil =>
    simp only [List.map_nil, List.nil_append]
    induction k with
    | zero => exact .nil
    | succ k ih => exact .no ih
  | cons q _ _ ih => exact .sh q ih
theorem str_start {H : Hp} {O : List Addr} {vs : List V} {ds : List D} (r : RepAll K (hid O H) vs ds) (N : List Str) : StR K H O (hid O H) (start N vs) H (startP N.length ds) := by
  refine ⟨[], Same.refl _, (fun a h => by cases h), List.nodup_nil, ?_, ?_⟩
  · rw [List.append_nil]; exact Same.refl _
  · rw [List.append_nil]
    unfold start startP
    rw [r.length]
    exact slots_start r _
theorem Def.pureF {x : Str} {st : Stmt} {N ps : List Str} {k n m : Nat} {F : PSt} {fn : List D → Option D} (hfn : fn = runF n m F) (D : Def K mg x st ps) (S : FnScope N ps (defScope st)) (hn : ps.length = n) (hm : N.length = m)
    (hb : ∀ (f : Addr) (cdv : Value) (A : Around) (outer : List Env) (s : Shared) (H : Hp) (E : XK), Room k (A.deeper (envOfC x (defScope st) s.heap.objs.size f cdv)) →
      ∃ t, JSs (cxOf CX0 P w K mg base N x (defScope st) f cdv A outer s H E).nox K (defBody st) t F) : Callee P w K mg base (k + 1) x ps (spF K n fn) := by
  subst hfn hm
  refine D.ok S (fun vs H Q E h => by rw [h.1, hn]) fun f cdv A outer s H vs Q E hr h => ?_
  obtain ⟨t, j⟩ := hb f cdv A outer s H E hr
  refine ⟨t, j.pe, ?_⟩
  obtain ⟨hl, O, ds, d, ok, r, hf, q⟩ := h
  have hl2 : ds.length = n := by rw [← r.length]; exact hl
  unfold runF at hf
  rw [if_pos hl2] at hf
  obtain ⟨o, e1, hf⟩ := bind_some' hf
  refine j.pu H O (hid O H) _ H _ o _ ok (str_start r N) e1 ?_
  cases o with
  | nx ρ => cases hf; exact fun σ' H' t' => q .non H' t'.same .non
  | rt d' => cases hf; exact fun v H' s' r' => q v H' s' r'
  | rl es =>
    cases hf
    refine fun a xs H' s' hn' ha r' => q (.ref a) H' s' ?_
    exact .lst (SqL.of (by rw [hid_out (ok.fresh hn')]; exact ha)) (r'.mono (hid_sub fun b hb => List.mem_cons_of_mem _ hb))
  | rn ess =>
    cases hf
    refine fun a ps H' s' nd' hn' ha r' => q (.ref a) H' s' ?_
    refine .lst (SqL.of (by rw [hid_out (ok.fresh (hn' a List.mem_cons_self))]; exact ha)) (r'.full (hid_sub fun b hb => List.mem_append_right _ hb) fun b hb o e => ?_)
    rw [hid_out (ok.fresh (hn' b (List.mem_cons_of_mem _ hb)))]
    exact e
  | rp es d2 =>
    cases hf
    refine fun p a xs v H' s' ha0 hp0 ha hp r' rv => q (.ref p) H' s' ?_
    have sb : Same (hid (a :: O) H') (hid O H') := hid_sub fun b hb => List.mem_cons_of_mem _ hb
    exact .tup (SqT.of (by rw [hid_out (ok.fresh hp0)]; exact hp)) (.cons (.lst (SqL.of (by rw [hid_out (ok.fresh ha0)]; exact ha)) (r'.mono sb)) (.cons (rv.mono sb) .nil))
  | bk ρ => cases hf
  | ct ρ => cases hf
theorem Def.pureL {x : Str} {st : Stmt} {N ps : List Str} {k n m : Nat} {F : PSt} {fn : List D → Option (List D)} (hfn : fn = runL n m F) (D : Def K mg x st ps) (S : FnScope N ps (defScope st)) (hn : ps.length = n) (hm : N.length = m)
    (hb : ∀ (f : Addr) (cdv : Value) (A : Around) (outer : List Env) (s : Shared) (H : Hp) (E : XK), Room k (A.deeper (envOfC x (defScope st) s.heap.objs.size f cdv)) →
      ∃ t, JSs (cxOf CX0 P w K mg base N x (defScope st) f cdv A outer s H E).nox K (defBody st) t F) : Callee P w K mg base (k + 1) x ps (spL K n fn) := by
  subst hfn hm
  refine D.ok S (fun vs H Q E h => by rw [h.1, hn]) fun f cdv A outer s H vs Q E hr h => ?_
  obtain ⟨t, j⟩ := hb f cdv A outer s H E hr
  refine ⟨t, j.pe, ?_⟩
  obtain ⟨hl, O, ds, d, ok, r, hf, q⟩ := h
  have hl2 : ds.length = n := by rw [← r.length]; exact hl
  unfold runL at hf
  rw [if_pos hl2] at hf
  obtain ⟨o, e1, hf⟩ := bind_some' hf
  refine j.pu H O (hid O H) _ H _ o _ ok (str_start r N) e1 ?_
  cases o with
  | rl es => cases hf; exact fun a xs H' s' hn' ha r' => q a xs H' s' hn' ha r'
  | rn ess => cases hf
  | rp _ _ => cases hf
  | nx ρ => cases hf
  | rt d' => cases hf
  | bk ρ => cases hf
  | ct ρ => cases hf
end
end L2
set_option maxHeartbeats 4000000
namespace L2
open PySem PySem.Spec PyProof.Rows
section
variable {X : Cx} {pins : List (Addr × Obj)} {σ : St} {H : Hp} {s : Shared}
end
section
variable {X : Cx} {K : PySem.W.Frag}
def vLS (f : PAs) : SEnv → Option Sl := fun ρ => (f (full ρ)).bind fun ds => if flatAll ds = true then some (.sh (.list ds)) else none
theorem pv_LS {te : TE} {fl : PAs} (h : PuL K te fl) : PuV K te (vLS fl) := by
  intro H0 O0 G σ H ρ s Q ok t hf q
  obtain ⟨d, e1, hf⟩ := bind_some' hf
  by_cases hc : flatAll d = true
  · rw [if_pos hc] at hf
    cases hf
    have ⟨o1, e2⟩ := t.envF ok
    obtain ⟨O, s0, n, nd, g, sl⟩ := t.ex
    have okA := okAll ok s0 sl
    refine h O0 σ H (full ρ) d Q o1 e2 e1 fun a xs H' s' hn ha r => ?_
    have sl' := sl.mono (hid_same (O := O0 ++ O) s') fun b _ o e => s' b o e
    have na : a ∉ O0 ++ O := okA.fresh hn
    refine q (.ref a) H' s' ⟨O, [], s0.trans s', n, nd, g.trans (hid_same s'), sl', rfl, .lst (SqL.of (by rw [show O0 ++ ([] ++ O) = O0 ++ O from rfl, hid_out na]; exact ha)) ?_⟩
    have := flat_reps (K := K) (O0 := a :: O0) (O := O) sl'.mem r hc
    exact this.mono (hid_sub fun b hb => List.mem_cons_of_mem _ hb)
  · rw [if_neg hc] at hf
    cases hf
end
section
variable {X : Cx} {K : PySem.W.Frag} {i : Nat} {x : Str} {e : Expr} {te : TE} {pos pos' : Pos}
end
section
variable {X : Cx} {K : PySem.W.Frag} {tg elt iter : Expr} {ifs : List Expr} {scope : Scope} {wi : TI} {g : TG} {tc : TT} {te : TE} {fi : PAs} {bd : D → PEnv → Option PEnv} {pt : PB} {fe : PF}
theorem js_setCompV {pos spos py : Pos} {i : Nat} {y : Str} (vk : PAs → SEnv → Option Sl) (hvk : ∀ {te : TE} {fl : PAs}, PuL K te fl → PuV K te (vk fl)) (own : List Str) (fv : List (Nat × Str)) (hN : X.N.Nodup) (hy : X.N[i]? = some y) (hx : Loc X.env.scope y) (hc : X.calm = true) (hi : JI X K tg iter wi fi) (fo : FvOk X scope fv) (gk : GKeep own.length g)
    (bg : ∀ fp pins s H, JG (cxComp X (own ++ fv.map (·.2)) scope (clF X.env scope.names []) fp pins s H) K tg g bd)
    (bt : ∀ fp pins s H, JTs (cxComp X (own ++ fv.map (·.2)) scope (clF X.env scope.names []) fp pins s H) K ifs tc pt)
    (be : ∀ fp pins s H, JE (cxComp X (own ++ fv.map (·.2)) scope (clF X.env scope.names []) fp pins s H) K elt te fe)
    (kind : scope.kind = .function) (cell : ∀ y ∈ scope.names, y.2 ≠ .cell) (names : ∀ x ∈ scope.names, x.2 = .local → scope.names.lookup x.1 = some .local)
    (free : freeOk X scope = true)
    (hsw : swapsWith (.ListComp elt [⟨tg, iter, ifs, 0⟩] scope pos) (some (.Name y py)) spos.line X.env = pure true)
    (hs : ∀ x, foldedSetIterable iter X.env x = pure x := by intro _; rfl) (hf : X.fn y = true ∨ X.env.scope.names.lookup y = some .local := by first | exact Or.inl rfl | exact Or.inr rfl) :
    JS X K (.Assign [.Name y py] (.ListComp elt [⟨tg, iter, ifs, 0⟩] scope pos) spos) (tAsg (tComp wi g tc te own.length fv) (gName i)) (pSet i (vk (pComp fi bd pt fe own.length (fv.map (·.1))))) :=
  js_set' (ps_setComp own fv hN hy hx hc hi.pe fo gk (fun fp pins s H => (bg fp pins s H).pe) (fun fp pins s H => (bt fp pins s H).pe) (fun fp pins s H => (be fp pins s H).pe) kind cell names free hsw hs hf)
    (hvk (pu_comp hi.pu (bg [] [] X.s₀ X.H₀).pu (bt [] [] X.s₀ X.H₀).pu (be [] [] X.s₀ X.H₀).pu _ _))
def vSL (f : PAs) : SEnv → Option Sl := vS (pOfL f)
theorem pv_SL {te : TE} {fl : PAs} (h : PuL K te fl) : PuV K te (vSL fl) := by
  refine pv_S ?_
  intro O σ H ρ d Q ok er hf q
  have hf' : (fl ρ).map PyData.list = some d := hf
  cases e1 : fl ρ with
  | none => rw [e1] at hf'; cases hf'
  | some ds =>
    rw [e1] at hf'
    cases hf'
    refine h O σ H ρ ds Q ok er e1 fun a xs H' s hn ha r => q _ H' s ?_
    have na : a ∉ O := ok.fresh hn
    exact .lst (SqL.of (by rw [hid_out na]; exact ha)) (r.mono (hid_sub fun b hb => List.mem_cons_of_mem _ hb))
end
section
variable {X : Cx} {K : PySem.W.Frag} {pos : Pos}
theorem js_appS (i : Nat) {x : Str} {e : Expr} {te : TE} {f : PF} {p apos cpos : Pos} (he : JE X K e te f) (hK : X.K = K) (hN : X.N[i]? = some x := by rfl) (hv : Vis X.env.scope x := by first | exact Or.inl rfl | exact Or.inr (Or.inl rfl) | exact Or.inr (Or.inr rfl)) (hd : (x == ("__debug__" : Str)) = false := by decide)
    (hcd : (x == ("__classdict__" : Str)) = false := by decide) (hbase : attributeBase (.Name x p) "append" X.env (eval (.Name x p) X.env) = eval (.Name x p) X.env := by rfl)
    (hfew : ((backTo cpos (starEach [e] X.env)).all (fun x => !x.1) && (backToKw cpos (keywordEach [] X.env)).all (fun x => x.1.isSome)
      && decide ([e].length + ([] : List Keyword).length + (if ([] : List Keyword).isEmpty then 0 else 1) < 30)) = true := by rfl)
    (hline : (apos.endLine == cpos.line) = true := by rfl) (hs : starEach [e] X.env = (false, eval e X.env) :: starEach [] X.env := by rfl) (hplain : (backTo cpos (starEach [] X.env)).any (·.1) = false := by rfl)
    (hs2 : swapsWith (.Call (.Attribute (.Name x p) "append" apos) [e] [] cpos) none pos.line X.env = pure false := by rfl) :
    JS X K (.Expr (.Call (.Attribute (.Name x p) "append" apos) [e] [] cpos) pos) (tDrop (tBM K "list" rAppend (tVar i) (tCons te tNil))) (pApp i (vS f)) := js_app i he.pe (pv_S he.pu) hK hN hv hd hcd hbase hfew hline hs hplain hs2
theorem js_setIS (i : Nat) {x : Str} {e ix : Expr} {te ti : TE} {f fi : PF} {p spos : Pos} (he : JE X K e te f) (hi : JE X K ix ti fi) (hN : X.N[i]? = some x := by rfl) (hv : Vis X.env.scope x := by first | exact Or.inl rfl | exact Or.inr (Or.inl rfl) | exact Or.inr (Or.inr rfl)) (hd : (x == ("__debug__" : Str)) = false := by decide)
    (hcd : (x == ("__classdict__" : Str)) = false := by decide)
    (ha : ∀ v, assign (.Subscript (.Name x p) ix spos) X.env v = (do
      let ov ← holding [v] (eval (.Name x p) X.env)
      let iv ← holding [v, ov] (eval ix X.env)
      standAt spos
      holding [v, ov, iv] (setItem ov iv v)
      release [v, ov, iv] []) := by intro _; rfl)
    (hs : swapsWithSole [.Subscript (.Name x p) ix spos] e pos.line X.env = pure false := by rfl) (hw : swappedStores [.Subscript (.Name x p) ix spos] e X.env = pure none := by rfl)
    (h1 : (assignEach [.Subscript (.Name x p) ix spos] X.env).map (·.2) = [assign (.Subscript (.Name x p) ix spos) X.env] := by rfl) :
    JS X K (.Assign [.Subscript (.Name x p) ix spos] e pos) (tAsg te (gSub (tVar i) ti rSetL)) (pSetI i fi (vS f)) := js_setI i he.pe (pv_S he.pu) hi hN hv hd hcd ha hs hw h1
theorem js_setIF (i : Nat) {x : Str} {e ix : Expr} {te ti : TE} {f fi : PF} {p spos : Pos} (he : JE X K e te f) (hi : JE X K ix ti fi) (hN : X.N[i]? = some x := by rfl) (hv : Vis X.env.scope x := by first | exact Or.inl rfl | exact Or.inr (Or.inl rfl) | exact Or.inr (Or.inr rfl)) (hd : (x == ("__debug__" : Str)) = false := by decide)
    (hcd : (x == ("__classdict__" : Str)) = false := by decide)
    (ha : ∀ v, assign (.Subscript (.Name x p) ix spos) X.env v = (do
      let ov ← holding [v] (eval (.Name x p) X.env)
      let iv ← holding [v, ov] (eval ix X.env)
      standAt spos
      holding [v, ov, iv] (setItem ov iv v)
      release [v, ov, iv] []) := by intro _; rfl)
    (hs : swapsWithSole [.Subscript (.Name x p) ix spos] e pos.line X.env = pure false := by rfl) (hw : swappedStores [.Subscript (.Name x p) ix spos] e X.env = pure none := by rfl)
    (h1 : (assignEach [.Subscript (.Name x p) ix spos] X.env).map (·.2) = [assign (.Subscript (.Name x p) ix spos) X.env] := by rfl) :
    JS X K (.Assign [.Subscript (.Name x p) ix spos] e pos) (tAsg te (gSub (tVar i) ti rSetL)) (pSetI i fi (vF f)) := js_setI i he.pe (pv_F he.pu) hi hN hv hd hcd ha hs hw h1
end
def spLawP (K : PySem.W.Frag) : Sp := fun vs H Q _ => ∃ (a : Addr) (ns : List Int), vs = [.ref a] ∧ SqL K H a (ns.map V.int) ∧ ns.length ≤ 63 ∧ ∀ H', Q (.bl true) H'
theorem rep_ints {K : PySem.W.Frag} {H : Hp} : ∀ ns : List Int, RepAll K H (ns.map V.int) (ns.map PyData.int)
  | [] => .nil
  | n :: r => .cons (.int n) (rep_ints r)
theorem Callee.law {P : Program} {w : World} {K : PySem.W.Frag} {mg : Str → Option Value} {base : Heap} {k : Nat} {x : Str} {ps : List Str} {f : List D → Option D} (C : Callee P w K mg base k x ps (spF K 1 f))
    (h : ∀ ns : List Int, ns.length ≤ 63 → f [.list (ns.map PyData.int)] = some (.bool true)) : Callee P w K mg base k x ps (spLawP K) :=
  C.imp fun vs H Q E ⟨a, ns, e, hq, hl, q⟩ => by
    subst e
    refine ⟨rfl, [], [.list (ns.map PyData.int)], .bool true, OkO.nil, ?_, h ns hl, fun v H' s' r => ?_⟩
    · rw [hid_nil]
      exact .cons (.lst hq (rep_ints ns)) .nil
    · cases r
      exact q H'
end L2
set_option maxHeartbeats 4000000
namespace L2
open PySem PySem.Spec PyProof.Rows
section
variable {X : Cx} {K : PySem.W.Frag}
theorem itemsOf_vals {n : Nat} {acc : Array Value} {a : Int} (h : ItemsOf (fun i v => ∃ t, v = Value.int (a + i * 1) t) acc n) : Vals ((List.range n).map fun i : Nat => V.int (a + (i : Nat))) acc.toList := by
  obtain ⟨hs, hv⟩ := h
  have key : ∀ (l : List Value) (k : Nat), (∀ j v, l[j]? = some v → ∃ t, v = Value.int (a + ((k + j : Nat) : Int) * 1) t) → Vals ((List.range' k l.length).map fun i : Nat => V.int (a + (i : Nat))) l := by
    intro l
    induction l with
    | nil => intro k _; exact .nil
    | cons u r ih =>
      intro k hk
      rw [List.length_cons, List.range'_succ, List.map_cons]
      refine .cons ?_ (ih (k + 1) fun j v hj => ?_)
      · obtain ⟨t, e⟩ := hk 0 u rfl
        exact ⟨t, by rw [e]; simp⟩
      · obtain ⟨t, e⟩ := hk (j + 1) v (by simpa using hj)
        refine ⟨t, ?_⟩
        rw [e]
        congr 3
        omega
  have := key acc.toList 0 fun j v hj => by
    have := hv j v (by simpa using hj)
    simpa using this
  rw [Array.length_toList, hs, ← List.range_eq_range'] at this
  exact this
theorem call_rangeO : CallR X (.type "range") (fun xs H Q => ∃ j : Int, xs = [.int j] ∧ ∀ p, H p = none → Q (.ref p) (upd H p (.rng 0 j))) := by
  intro pins s σ H xs us Q I r h
  obtain ⟨j, rfl, q⟩ := h
  obtain ⟨u, rfl, rx⟩ := vals1 r
  obtain ⟨t, rfl⟩ := rx
  refine call_range_1 ⟨.ref s.heap.objs.size, _, I.laid (o := .rng 0 j) (fun b ob q => Heap.get?_push_of_some _ q) (Nat.le_refl _) ?_, rfl, q _ (I.hok.fresh (Nat.le_refl _))⟩
  exact ⟨_, _, _, Heap.get?_push_size _ rfl⟩
theorem call_list_rng (hh : X.A.handled = none) : CallR X (.type "list") (fun xs H Q => ∃ (p : Addr) (j : Int), xs = [.ref p] ∧ H p = some (.rng 0 j) ∧ -(2 ^ 62) ≤ j ∧ j < 2 ^ 62 ∧ j.toNat < sizeLine ∧ ∀ l, H l = none → Q (.ref l) (upd H l (.lst ((List.range j.toNat).map fun i : Nat => V.int (0 + (i : Nat)))))) := by
  intro pins s σ H xs us Q I r h
  obtain ⟨p, j, rfl, hp, h1, h2, h3, q⟩ := h
  obtain ⟨u, rfl, rx⟩ := vals1 r
  cases rx
  obtain ⟨t, u, v, e⟩ := I.hok p _ hp
  have hsz : sizeLine = 16777216 := sizeLine_eq
  refine call_list_range (n := j.toNat) hh (show IsRange s.heap p 0 j 1 t u v from e) (small_one (by decide) (by decide) h1 h2) (by rw [rangeSize_one]; split <;> omega) (by omega) fun h' tk acc' c' hk hS' hacc => ?_
  have hv := itemsOf_vals hacc
  refine ⟨.ref s.heap.objs.size, _, I.laid (t' := tk) (o := .lst ((List.range j.toNat).map fun i : Nat => V.int (0 + (i : Nat)))) hk (Nat.le_refl _) ?_, rfl, q _ (I.hok.fresh (Nat.le_refl _))⟩
  exact ⟨by simp; omega, acc'.toList, c', hv, hS'⟩
theorem rep_range {H : Hp} (n : Nat) : RepAll K H ((List.range n).map fun i : Nat => V.int (0 + (i : Nat))) (rangeD 0 n) := by
  unfold rangeD
  generalize List.range n = l
  induction l with
  | nil => exact .nil
  | cons a r ih => exact .cons (.int _) ih
def pListRange (r : PAs) : PAs := fun ρ => (r ρ).bind fun ds => (gRange1 ds).bind fun es => if fits es.length = true then some es else none
theorem jl_listRange {a : Expr} {ta : TA} {r : PAs} {p p2 pos pos2 : Pos} (hh : X.A.handled = none) (hg : Gl X "list") (hm : X.mg "list" = none) (hg2 : Gl X "range") (hm2 : X.mg "range" = none) (ha : JA X K [a] ta r)
    (he : starEach [a] X.env = (false, eval a X.env) :: starEach [] X.env := by rfl) (hpl : (backTo pos2 (starEach [] X.env)).any (·.1) = false := by rfl)
    (he2 : starEach [.Call (.Name "range" p2) [a] [] pos2] X.env = (false, eval (.Call (.Name "range" p2) [a] [] pos2) X.env) :: starEach [] X.env := by rfl) (hpl2 : (backTo pos (starEach [] X.env)).any (·.1) = false := by rfl) :
    JL X K (.Call (.Name "list" p) [.Call (.Name "range" p2) [a] [] pos2] [] pos) (tCB (fun xs H Q => ∃ (p : Addr) (j : Int), xs = [.ref p] ∧ H p = some (.rng 0 j) ∧ -(2 ^ 62) ≤ j ∧ j < 2 ^ 62 ∧ j.toNat < sizeLine ∧ ∀ l, H l = none → Q (.ref l) (upd H l (.lst ((List.range j.toNat).map fun i : Nat => V.int (0 + (i : Nat))))))
      (tCons (tCB (fun xs H Q => ∃ j : Int, xs = [.int j] ∧ ∀ p, H p = none → Q (.ref p) (upd H p (.rng 0 j))) ta) tNil)) (pListRange r) :=
  ⟨pe_callTy (call_list_rng hh) hg hm (by rfl) (pa_cons (pe_callTy call_rangeO hg2 hm2 (by rfl) ha.pe (by decide) (by decide) he hpl) pa_nil he2) (by decide) (by decide) he2 hpl2, by
  intro O σ H ρ es Q ok er hf q
  obtain ⟨ds, e1, hf⟩ := bind_some' hf
  obtain ⟨fs, e2, hf⟩ := bind_some' hf
  by_cases hc : fits fs.length = true
  · rw [if_pos hc] at hf
    obtain rfl : fs = es := Option.some.inj hf
    refine ha.pu O σ H ρ ds _ ok er e1 fun vs H1 s1 r1 => ?_
    unfold gRange1 at e2
    split at e2
    · rename_i j
      obtain ⟨v, rfl, rv⟩ := rep1 r1
      cases rv
      by_cases hj : -(2 ^ 62) ≤ j ∧ j < 2 ^ 62
      · rw [if_pos hj] at e2
        obtain rfl : rangeD 0 j.toNat = fs := Option.some.inj e2
        rw [rangeD_len] at hc
        refine ⟨j, rfl, fun pr hpr => ?_⟩
        refine ⟨pr, j, rfl, upd_same, hj.1, hj.2, of_decide_eq_true hc, fun l hl => ?_⟩
        have sn : Same H1 (upd H1 pr (.rng 0 j)) := Same.new hpr
        have s2 := s1.trans sn
        exact q l _ _ (s2.trans (Same.new hl)) (s2.free hl) upd_same (rep_range _)
      · rw [if_neg hj] at e2
        cases e2
    · cases e2
  · rw [if_neg hc] at hf
    cases hf⟩
def pPopI (i : Nat) (fi : PF) : PSt := fun ρ => (fi (full ρ)).bind fun kd => (asI kd).bind fun k => (ρ[i]?).bind fun s' => (asOw s').bind fun ds => if 0 ≤ k ∧ k < ds.length ∧ fits ds.length = true then some (.nx (ρ.set i (.ow (ds.eraseIdx k.toNat)))) else none
theorem RepAll.eraseIdx {H : Hp} : ∀ {xs : List V} {ds : List D} (k : Nat), RepAll K H xs ds → RepAll K H (xs.eraseIdx k) (ds.eraseIdx k)
  | _, _, _, .nil => .nil
  | _, _, 0, .cons _ b => b
  | _, _, k + 1, .cons a b => .cons a (RepAll.eraseIdx k b)
theorem js_popI (i : Nat) {x : Str} {e : Expr} {te : TE} {f : PF} {p apos cpos pos : Pos} (he : JE X K e te f) (hK : X.K = K) (hN : X.N[i]? = some x := by rfl) (hv : Vis X.env.scope x := by first | exact Or.inl rfl | exact Or.inr (Or.inl rfl) | exact Or.inr (Or.inr rfl)) (hd : (x == ("__debug__" : Str)) = false := by decide)
    (hcd : (x == ("__classdict__" : Str)) = false := by decide) (hbase : attributeBase (.Name x p) "pop" X.env (eval (.Name x p) X.env) = eval (.Name x p) X.env := by rfl)
    (hfew : ((backTo cpos (starEach [e] X.env)).all (fun x => !x.1) && (backToKw cpos (keywordEach [] X.env)).all (fun x => x.1.isSome)
      && decide ([e].length + ([] : List Keyword).length + (if ([] : List Keyword).isEmpty then 0 else 1) < 30)) = true := by rfl)
    (hline : (apos.endLine == cpos.line) = true := by rfl) (hs : starEach [e] X.env = (false, eval e X.env) :: starEach [] X.env := by rfl) (hplain : (backTo cpos (starEach [] X.env)).any (·.1) = false := by rfl)
    (hs2 : swapsWith (.Call (.Attribute (.Name x p) "pop" apos) [e] [] cpos) none pos.line X.env = pure false := by rfl) :
    JS X K (.Expr (.Call (.Attribute (.Name x p) "pop" apos) [e] [] cpos) pos) (tDrop (tBM K "list" rPopAt (tVar i) (tCons te tNil))) (pPopI i f) := ⟨by
  subst hK
  exact ps_expr (pe_bm PySem.F.plainAttrs_list PySem.F.slot_list_pop PySem.F.type_list_pop mt_popAt (pe_var hN hv hd hcd) (pa_cons he.pe pa_nil hs) hbase hfew hline hs hplain) hs2, by
  intro H0 O0 G σ H ρ o E ok s hf q
  obtain ⟨kd, e1, hf⟩ := bind_some' hf
  obtain ⟨k, e2, hf⟩ := bind_some' hf
  obtain ⟨sl2, e3, hf⟩ := bind_some' hf
  obtain ⟨ds, e4, hf⟩ := bind_some' hf
  rw [asOw_eq e4] at e3
  by_cases hc : 0 ≤ k ∧ k < ds.length ∧ fits ds.length = true
  · rw [if_pos hc] at hf
    cases hf
    obtain ⟨a0, xs0, h10, h20, h30⟩ := s.getOw e3
    refine ⟨_, h10, .inl ⟨rfl, _, SqL.of h20⟩, ?_⟩
    refine s.evalF he.pu ok e1 fun v H1 s1 t1 rv => ?_
    obtain ⟨O, s0, n, nd, g, sl⟩ := t1.ex
    obtain ⟨a, xs, h1, h2, h3, h4⟩ := sl.getOw e3
    rw [h10] at h1
    cases h1
    have hl := h4.length
    have hsz : sizeLine = 16777216 := sizeLine_eq
    have hfit : ds.length < sizeLine := of_decide_eq_true hc.2.2
    cases rv with
    | int m =>
      obtain rfl : m = k := Option.some.inj e2
      have hkl : m.toNat < xs.length := by omega
      refine ⟨a0, xs, m, m.toNat, xs[m.toNat], rfl, rfl, h3, by omega, by omega, seqIndex_of hc.1 (by omega), by simp [hkl], q σ _ ⟨O, fun b o e => ?_, n, nd, ?_, ?_⟩⟩
      · rw [upd_ne (ne_of_none e (n a0 h2))]
        exact s0 b o e
      · rw [hid_upd (by simp [h2])]
        exact g
      · rw [hid_upd (by simp [h2])]
        exact sl.write (h4.eraseIdx _) nd e3 h10
    | _ => cases e2
  · rw [if_neg hc] at hf
    cases hf⟩
end
end L2
set_option maxHeartbeats 4000000
namespace L2
open PySem PySem.Spec PyProof.Rows
section
variable {prog : Program} {w : World} {A : Around} {E : Value → Shared → Prop} {s : Shared} {z TI TO i1 i2 l1 l2 T : Addr} {f : Bool} {oT : Obj}
end
section
variable {X : Cx} {pins : List (Addr × Obj)} {σ : St} {H1 : Hp} {z TI TO i1 i2 a b S : Addr} {xs ys : List V}
end
section
variable {X : Cx} {K : PySem.W.Frag}
end
end L2
set_option maxHeartbeats 4000000
namespace L2
open PySem PySem.Spec PyProof.Rows
section
variable {X : Cx} {K : PySem.W.Frag} {tg : Expr}
end
section
variable {X : Cx} {K : PySem.W.Frag} {tg : Expr}
end
section
variable {X : Cx} {K : PySem.W.Frag} {pos : Pos}
end
end L2
set_option maxHeartbeats 4000000
namespace L2
open PySem PySem.Spec PyProof.Rows
theorem runF_of {n m : Nat} {F : PSt} {ds : List D} {o : Out} {d : D} (hl : ds.length = n) (h : F (startP m ds) = some o) (ho : outD o = some d) : runF n m F ds = some d := by
  unfold runF
  rw [if_pos hl, h]
  exact ho
theorem runL_of {n m : Nat} {F : PSt} {ds : List D} {es : List D} (hl : ds.length = n) (h : F (startP m ds) = some (.rl es)) : runL n m F ds = some es := by
  unfold runL
  rw [if_pos hl, h]
  rfl
theorem dAdd_int (a b : Int) : dAdd (.int a) (.int b) = some (.int (a + b)) := rfl
theorem dSub_int (a b : Int) : dSub (.int a) (.int b) = some (.int (a - b)) := rfl
theorem dMul_int (a b : Int) : dMul (.int a) (.int b) = if (small a || small b) = true then some (.int (a * b)) else none := rfl
theorem dMod_int (a b : Int) : dMod (.int a) (.int b) = if 0 < b then some (.int (a % b)) else none := by
  show (if decide (0 < b) = true then _ else _) = _
  simp only [decide_eq_true_eq]
theorem dDiv_int (a b : Int) : dDiv (.int a) (.int b) = if (0 < b ∧ b < 1073741824) ∨ Wide b then some (.int (a / b)) else none := by
  show (if decide ((0 < b ∧ b < 1073741824) ∨ Wide b) = true then _ else _) = _
  simp only [decide_eq_true_eq]
theorem dPow_int (a b : Int) : dPow (.int a) (.int b) = if 0 ≤ b ∧ b ≤ 1000000 ∧ a.natAbs < 2 ^ 64 then some (.int (a ^ b.toNat)) else none := by
  show (if decide (0 ≤ b ∧ b ≤ 1000000 ∧ a.natAbs < 2 ^ 64) = true then _ else _) = _
  simp only [decide_eq_true_eq]
def tenP (b : Int) : Int := 10 ^ b.toNat
theorem tenP_pos (b : Int) : 0 < tenP b := Int.pow_pos (by decide)
theorem dPow_ten (b : Int) : dPow (.int 10) (.int b) = if 0 ≤ b ∧ b ≤ 1000000 then some (.int (tenP b)) else none := by
  rw [dPow_int]
  have e : (10 : Int).natAbs < 2 ^ 64 := by decide
  simp only [e, and_true]
  rfl
theorem dLt_int (a b : Int) : dLt (.int a) (.int b) = some (.bool (decide (a < b))) := rfl
theorem dLe_int (a b : Int) : dLe (.int a) (.int b) = some (.bool (decide (a ≤ b))) := rfl
theorem dGt_int (a b : Int) : dGt (.int a) (.int b) = some (.bool (decide (b < a))) := rfl
theorem dGe_int (a b : Int) : dGe (.int a) (.int b) = some (.bool (decide (b ≤ a))) := rfl
theorem dNeg_int (a : Int) : dNeg (.int a) = some (.int (-a)) := rfl
theorem dEq_int (a b : Int) : dEq (.int a) (.int b) = some (.bool (decide (a = b))) := by
  simp [dEq, SeqAt.shaped, PyData.canLay0, PyData.depth, PyData.eqv, Bool.beq_eq_decide_eq]
theorem dNe_int (a b : Int) : dNe (.int a) (.int b) = some (.bool (!decide (a = b))) := by
  simp [dNe, SeqAt.shaped, PyData.canLay0, PyData.depth, PyData.eqv, Bool.beq_eq_decide_eq]
theorem dIx_list (ds : List D) (i : Int) : dIx (.list ds) (.int i) = atI ds i := rfl
theorem dIx_tup (ds : List D) (i : Int) : dIx (.tuple ds) (.int i) = atI ds i := rfl
theorem atI_ofNat {α : Type} (xs : List α) (j : Nat) : atI xs (j : Int) = xs[j]? := by
  unfold atI ixN
  by_cases h : j < xs.length
  · rw [if_pos (by omega), if_pos (by omega)]
    simp
  · rw [if_pos (by omega), if_neg (by omega)]
    simp; omega
theorem atI_zero {α : Type} (x : α) (xs : List α) : atI (x :: xs) 0 = some x := atI_ofNat (x :: xs) 0
theorem atI_one {α : Type} (x y : α) (xs : List α) : atI (x :: y :: xs) 1 = some y := atI_ofNat (x :: y :: xs) 1
theorem atI_two {α : Type} (x y z : α) (xs : List α) : atI (x :: y :: z :: xs) 2 = some z := atI_ofNat (x :: y :: z :: xs) 2
theorem fits_lit {n : Nat} (h : n < 16777216) : fits n = true := decide_eq_true h
theorem small_def (i : Int) : small i = decide (-18446744073709551616 < i ∧ i < 18446744073709551616) := rfl
theorem fits_def (n : Nat) : fits n = decide (n < 16777216) := rfl
theorem tyD_list (i : List D) : tyD (.list i) = "list" := rfl
theorem tyD_tup (i : List D) : tyD (.tuple i) = "tuple" := rfl
theorem tyD_bool (i : Bool) : tyD (.bool i) = "bool" := rfl
theorem tyD_int (i : Int) : tyD (.int i) = "int" := rfl
theorem tyD_none : tyD .none = "NoneType" := rfl
theorem subT_refl (t : String) : subT t t = true := by simp [subT]
theorem subT_ib : subT "int" "bool" = false := by decide
theorem subT_bi : subT "bool" "int" = true := by decide
theorem isNon_none : isNon (.none : D) = true := rfl
theorem isNon_int (i : Int) : isNon (.int i : D) = false := rfl
theorem isNon_list (i : List D) : isNon (.list i : D) = false := rfl
theorem isNon_tup (i : List D) : isNon (.tuple i : D) = false := rfl
theorem bnd_some {α β : Type} (a : α) (f : α → Option β) : (some a).bind f = f a := by
  have h : ∀ o : Option α, o = some a → o.bind f = f a := by
    intro o e
    subst e
    rfl
  exact h _ rfl
theorem bnd_none {α β : Type} (f : α → Option β) : (none : Option α).bind f = none := rfl
theorem getI0 {α : Type} (x : α) (xs : List α) : (x :: xs)[0]? = some x := rfl
theorem getIS {α : Type} (x : α) (xs : List α) (i : Nat) : (x :: xs)[i + 1]? = xs[i]? := rfl
theorem asB_bool (b : Bool) : asB (.bool b) = some b := rfl
theorem asI_int (b : Int) : asI (.int b) = some b := rfl
theorem asL_list (b : List D) : asL (.list b) = some b := rfl
theorem asT_tup (b : List D) : asT (.tuple b) = some b := rfl
theorem asSh_sh (b : D) : asSh (.sh b) = some b := rfl
theorem asOw_ow (b : List D) : asOw (.ow b) = some b := rfl
theorem view_sh (d : D) : Sl.view (.sh d) = some d := rfl
theorem view_ow (d : List D) : Sl.view (.ow d) = some (.list d) := rfl
theorem view_no : Sl.view .no = none := rfl
theorem mask_sh (d : D) : Sl.mask (.sh d) = some d := rfl
theorem mask_ow (d : List D) : Sl.mask (.ow d) = none := rfl
theorem mask_no : Sl.mask .no = none := rfl
theorem gLen_list (ds : List D) : gLen [.list ds] = some (.int ds.length) := rfl
theorem gLen_tup (ds : List D) : gLen [.tuple ds] = some (.int ds.length) := rfl
theorem gList_list (ds : List D) : gList [.list ds] = some ds := rfl
theorem gList_tup (ds : List D) : gList [.tuple ds] = some ds := rfl
theorem gEnum_list (ds : List D) : gEnum [.list ds] = some (enumD ds) := rfl
theorem gZip_list (ds es : List D) : gZip [.list ds, .list es] = some (zipD ds es) := rfl
theorem gMax_int (i j : Int) : gMax [.int i, .int j] = some (.int (max i j)) := rfl
theorem gMin_int (i j : Int) : gMin [.int i, .int j] = some (.int (min i j)) := rfl
theorem gInt_bool (b : Bool) : gInt [.bool b] = some (.int (if b then 1 else 0)) := rfl
theorem gInt_int (b : Int) : gInt [.int b] = some (.int b) := rfl
theorem gRange1_int (j : Int) (h : -4611686018427387904 ≤ j ∧ j < 4611686018427387904) : gRange1 [.int j] = some (rangeD 0 j.toNat) := if_pos h
theorem startP_eq (m : Nat) (ds : List D) : startP m ds = ds.map .sh ++ List.replicate (m - ds.length) .no := rfl
theorem flatD_int (i : Int) : flatD (.int i) = true := by simp [flatD]
theorem flatD_bool (i : Bool) : flatD (.bool i) = true := by simp [flatD]
theorem flatD_none : flatD .none = true := by simp [flatD]
theorem flatD_tup (ds : List D) : flatD (.tuple ds) = flatAll ds := by simp [flatD]
theorem flatAll_nil : flatAll [] = true := rfl
theorem flatAll_cons (d : D) (ds : List D) : flatAll (d :: ds) = (flatD d && flatAll ds) := rfl
theorem ite_true' {α : Type} (a b : α) : (if true = true then a else b) = a := rfl
theorem ite_false' {α : Type} (a b : α) : (if false = true then a else b) = b := rfl
theorem compP_map {α : Type} {bd : D → PEnv → Option PEnv} {pt : PB} {fe : PF} {ρ0 : PEnv} (enc : α → D) (p : α → Bool) (h : α → D) : ∀ (xs : List α), (∀ x ∈ xs, ∃ ρ1, bd (enc x) ρ0 = some ρ1 ∧ pt ρ1 = some (p x) ∧ (p x = true → fe ρ1 = some (h x))) →
    compP bd pt fe ρ0 (xs.map enc) = some ((xs.filter p).map h)
  | [], _ => rfl
  | x :: xs, H => by
    obtain ⟨ρ1, h1, h2, h3⟩ := H x List.mem_cons_self
    have ih := compP_map enc p h xs fun y hy => H y (List.mem_cons_of_mem _ hy)
    rw [List.map_cons]
    unfold compP
    rw [h1, bnd_some, h2, bnd_some, ih]
    cases hp : p x with
    | true => rw [if_pos rfl, h3 hp, bnd_some, bnd_some, List.filter_cons_of_pos hp]; rfl
    | false => rw [if_neg Bool.false_ne_true, List.filter_cons_of_neg (by rw [hp]; exact Bool.false_ne_true)]
theorem compP_mapT {α : Type} {bd : D → PEnv → Option PEnv} {fe : PF} {ρ0 : PEnv} (enc : α → D) (h : α → D) (xs : List α) (H : ∀ x ∈ xs, ∃ ρ1, bd (enc x) ρ0 = some ρ1 ∧ fe ρ1 = some (h x)) :
    compP bd pTrue fe ρ0 (xs.map enc) = some (xs.map h) := by
  have := compP_map (pt := pTrue) enc (fun _ => true) h xs fun x hx => by
    obtain ⟨ρ1, h1, h2⟩ := H x hx
    exact ⟨ρ1, h1, rfl, fun _ => h2⟩
  rw [this, List.filter_eq_self.mpr (fun _ _ => rfl)]
theorem forP_nx {bs : D → SEnv → Option SEnv} {F : PSt} {d : D} {ds : List D} {ρ ρ1 ρ2 : SEnv} (h1 : bs d ρ = some ρ1) (h2 : F ρ1 = some (.nx ρ2)) : forP bs F (d :: ds) ρ = forP bs F ds ρ2 := by
  simp only [forP, h1, h2, bnd_some]
theorem forP_rt {bs : D → SEnv → Option SEnv} {F : PSt} {d r : D} {ds : List D} {ρ ρ1 : SEnv} (h1 : bs d ρ = some ρ1) (h2 : F ρ1 = some (.rt r)) : forP bs F (d :: ds) ρ = some (.rt r) := by
  simp only [forP, h1, h2, bnd_some]
theorem for_inv {α S : Type} {bs : D → SEnv → Option SEnv} {F : PSt} (enc : α → D) (R : S → SEnv → Prop) (step : S → α → S) : ∀ (xs : List α), (∀ s ρ x, x ∈ xs → R s ρ → ∃ ρ1 ρ2, bs (enc x) ρ = some ρ1 ∧ F ρ1 = some (.nx ρ2) ∧ R (step s x) ρ2) →
    ∀ s ρ, R s ρ → ∃ ρ', forP bs F (xs.map enc) ρ = some (.nx ρ') ∧ R (xs.foldl step s) ρ'
  | [], _, s, ρ, r => ⟨ρ, rfl, r⟩
  | x :: xs, H, s, ρ, r => by
    obtain ⟨ρ1, ρ2, h1, h2, r2⟩ := H s ρ x List.mem_cons_self r
    obtain ⟨ρ', h3, r3⟩ := for_inv enc R step xs (fun s ρ y hy => H s ρ y (List.mem_cons_of_mem _ hy)) (step s x) ρ2 r2
    exact ⟨ρ', by rw [List.map_cons, forP_nx h1 h2]; exact h3, r3⟩
theorem for_range_inv {bs : D → SEnv → Option SEnv} {F : PSt} {lo : Int} (R : Nat → SEnv → Prop) (n : Nat) (H : ∀ i ρ, i < n → R i ρ → ∃ ρ1 ρ2, bs (.int (lo + (i : Nat))) ρ = some ρ1 ∧ F ρ1 = some (.nx ρ2) ∧ R (i + 1) ρ2) (ρ : SEnv) (r : R 0 ρ) :
    ∃ ρ', forP bs F (rangeD lo n) ρ = some (.nx ρ') ∧ R n ρ' := by
  have key : ∀ (k i : Nat) (ρ : SEnv), i + k = n → R i ρ → ∃ ρ', forP bs F ((List.range' i k).map fun i => .int (lo + (i : Nat))) ρ = some (.nx ρ') ∧ R n ρ' := by
    intro k
    induction k with
    | zero => intro i ρ h r; have e : i = n := by omega
              subst e; exact ⟨ρ, rfl, r⟩
    | succ k ih =>
      intro i ρ h r
      obtain ⟨ρ1, ρ2, h1, h2, r2⟩ := H i ρ (by omega) r
      obtain ⟨ρ', h3, r3⟩ := ih (i + 1) ρ2 (by omega) r2
      exact ⟨ρ', by rw [List.range'_succ, List.map_cons, forP_nx h1 h2]; exact h3, r3⟩
  have := key n 0 ρ (by omega) r
  unfold rangeD
  rw [List.range_eq_range']
  exact this
theorem while_idx {c : PB} {F : PSt} (B : Nat) (R : Nat → SEnv → Prop) (H : ∀ k ρ, R k ρ → ∃ b, c (full ρ) = some b ∧ (b = true → k < B ∧ ∃ ρ', F ρ = some (.nx ρ') ∧ R (k + 1) ρ')) :
    ∀ (n k : Nat) (ρ : SEnv), R k ρ → k ≤ B → B < k + n → ∃ k' ρ', whileP c F n ρ = some (.nx ρ') ∧ R k' ρ' ∧ c (full ρ') = some false ∧ k' ≤ B
  | 0, k, ρ, _, h, h' => by omega
  | n + 1, k, ρ, r, h, h' => by
    obtain ⟨b, h1, h2⟩ := H k ρ r
    cases b with
    | false => exact ⟨k, ρ, by simp only [whileP, h1, bnd_some, Bool.false_eq_true, if_false], r, h1, h⟩
    | true =>
      obtain ⟨hk, ρ2, h3, r2⟩ := h2 rfl
      obtain ⟨k', ρ', h5, r5, h6, h7⟩ := while_idx B R H n (k + 1) ρ2 r2 (by omega) (by omega)
      refine ⟨k', ρ', ?_, r5, h6, h7⟩
      simp only [whileP, h1, h3, bnd_some, if_true]
      exact h5
theorem sq_nx {F F' : PSt} {ρ ρ' : SEnv} {o : Option Out} (h : F ρ = some (.nx ρ')) (h' : F' ρ' = o) : pSq F F' ρ = o := by
  unfold pSq
  rw [h]
  exact h'
theorem sq_rt {F F' : PSt} {ρ : SEnv} {d : D} (h : F ρ = some (.rt d)) : pSq F F' ρ = some (.rt d) := by
  unfold pSq
  rw [h]
  rfl
theorem sq_rl {F F' : PSt} {ρ : SEnv} {d : List D} (h : F ρ = some (.rl d)) : pSq F F' ρ = some (.rl d) := by
  unfold pSq
  rw [h]
  rfl
theorem for_eq {fi : PAs} {bs : D → SEnv → Option SEnv} {F : PSt} {ρ : SEnv} {items : List D} (h : fi (masked ρ) = some items) : pFor fi bs F ρ = forP bs F items ρ := by
  unfold pFor
  rw [h]
  rfl
theorem comp_eq {fi : PAs} {bd : D → PEnv → Option PEnv} {pt : PB} {fe : PF} {n : Nat} {is : List Nat} {ρ : PEnv} {items : List D} (h : fi ρ = some items) (hl : items.length < 16777216) : pComp fi bd pt fe n is ρ = compP bd pt fe (compEnv n is ρ) items := by
  unfold pComp
  rw [h, bnd_some, if_pos (fits_lit hl)]
theorem dEq_T (t u : Thing) : dEq (encD t) (encD u) = some (.bool (decide (t = u))) := by
  unfold dEq
  rw [if_pos ⟨shaped_T t, shaped_T u⟩, eqv_T]
theorem dNe_T (t u : Thing) : dNe (encD t) (encD u) = some (.bool (!decide (t = u))) := by
  unfold dNe
  rw [if_pos ⟨shaped_T t, shaped_T u⟩, eqv_T]
theorem dNe_N (t : Thing) : dNe (encD t) (.tuple []) = some (.bool (!decide (t = none))) := dNe_T t none
theorem dEq_N (t : Thing) : dEq (encD t) (.tuple []) = some (.bool (decide (t = none))) := dEq_T t none
theorem dEq_L (ts us : List Thing) : dEq (.list (ts.map encD)) (.list (us.map encD)) = some (.bool (decide (ts = us))) := by
  unfold dEq
  rw [if_pos ⟨shaped_L ts, shaped_L us⟩, eqv_L]
theorem dNe_L (ts us : List Thing) : dNe (.list (ts.map encD)) (.list (us.map encD)) = some (.bool (!decide (ts = us))) := by
  unfold dNe
  rw [if_pos ⟨shaped_L ts, shaped_L us⟩, eqv_L]
theorem flat_T (t : Thing) : flatD (encD t) = true := by
  cases t with
  | none => rfl
  | some kw => obtain ⟨k, w⟩ := kw; rfl
theorem flat_Ts : ∀ ts : List Thing, flatAll (ts.map encD) = true
  | [] => rfl
  | t :: r => by rw [List.map_cons, flatAll_cons, flat_T, flat_Ts r]; rfl
theorem dEq_ints (a b : List Int) : dEq (.list (a.map PyData.int)) (.list (b.map PyData.int)) = some (.bool (decide (a = b))) := by
  have sh : ∀ l : List Int, PyData.canLayAll0 (l.map PyData.int) = true ∧ PyData.depthAll (l.map PyData.int) ≤ 1 := by
    intro l
    induction l with
    | nil => simp [PyData.canLayAll0, PyData.depthAll]
    | cons n r ih => simp only [List.map_cons, PyData.canLayAll0, PyData.depthAll, PyData.canLay0, PyData.depth, ih.1, Bool.and_self, true_and]; have := ih.2; omega
  have sp : ∀ l : List Int, SeqAt.shaped (.list (l.map PyData.int)) = true := fun l => by
    unfold SeqAt.shaped
    simp only [PyData.canLay0, PyData.depth, (sh l).1, Bool.true_and]
    exact decide_eq_true (by have := (sh l).2; omega)
  have ev : ∀ a b : List Int, PyData.eqvAll (a.map PyData.int) (b.map PyData.int) = decide (a = b) := by
    intro a
    induction a with
    | nil => intro b; cases b <;> simp [PyData.eqvAll]
    | cons x r ih =>
      intro b
      cases b with
      | nil => simp [PyData.eqvAll]
      | cons y q => simp only [List.map_cons, PyData.eqvAll, PyData.eqv, ih q]; by_cases h1 : x = y <;> by_cases h2 : r = q <;> simp [h1, h2]
  unfold dEq
  rw [if_pos ⟨sp a, sp b⟩]
  simp only [PyData.eqv]
  rw [ev]
theorem dEq_ints_nil (a : List Int) : dEq (.list (a.map PyData.int)) (.list []) = some (.bool (decide (a = []))) := dEq_ints a []
theorem dEq_L_nil (a : List Thing) : dEq (.list (a.map encD)) (.list []) = some (.bool (decide (a = []))) := dEq_L a []
end L2
set_option maxHeartbeats 4000000
namespace L2
open PySem PySem.Spec PyProof.Rows
abbrev PNs := PEnv → Option (List (List D))
theorem hid_big {O O' : List Addr} {H H' : Hp} (s : Same H H') (hn : ∀ b ∈ O', b ∈ O ∨ H b = none) : Same (hid O H) (hid O' H') := fun b o e => by
  obtain ⟨n, e⟩ := hid_some e
  rw [hid_out fun z => (hn b z).elim n fun w => by rw [e] at w; cases w]
  exact s b o e
def PuN (K : PySem.W.Frag) (te : TE) (f : PNs) : Prop := ∀ (O : List Addr) (σ : St) (H : Hp) (ρ : PEnv) (dss : List (List D)) (Q : VK), OkO O H → EnvR K (hid O H) σ ρ → f ρ = some dss →
  (∀ a ps H', Same H H' → (a :: ps).Nodup → (∀ b ∈ a :: ps, H b = none) → H' a = some (.lst (ps.map V.ref)) → Inner K (hid ((a :: ps) ++ O) H') H' ps dss → Q (.ref a) H') → te σ H Q
structure JN (X : Cx) (K : PySem.W.Frag) (e : Expr) (te : TE) (f : PNs) : Prop where
  pe : PE X e te
  pu : PuN K te f
def pOfN (f : PNs) : PAs := fun ρ => (f ρ).bind fun dss => some (dss.map .list)
section
variable {X : Cx} {K : PySem.W.Frag}
theorem PuN.l {te : TE} {f : PNs} (h : PuN K te f) : PuL K te (pOfN f) := by
  intro O σ H ρ ds Q ok er hf q
  obtain ⟨dss, e1, hf⟩ := bind_some' hf
  cases hf
  refine h O σ H ρ dss Q ok er e1 fun a ps H' s nd hn ha r => q a _ H' s (hn a List.mem_cons_self) ha ?_
  refine r.full (hid_sub fun b hb => ?_) fun b hb o e => ?_
  · rcases List.mem_cons.mp hb with rfl | hb
    · exact List.mem_append_left _ List.mem_cons_self
    · exact List.mem_append_right _ hb
  · rw [hid_out ?_]
    · exact e
    · intro z
      rcases List.mem_cons.mp z with z | z
      · exact (List.nodup_cons.mp nd).1 (by rw [← z]; exact hb)
      · exact ok.fresh (hn b (List.mem_cons_of_mem _ hb)) z
theorem JN.jl {e : Expr} {te : TE} {f : PNs} (j : JN X K e te f) : JL X K e te (pOfN f) := ⟨j.pe, j.pu.l⟩
def PuAL (K : PySem.W.Frag) (t : TA) (f : PNs) : Prop := ∀ (O : List Addr) (σ : St) (H : Hp) (ρ : PEnv) (dss : List (List D)) (Q : List V → Hp → Prop), OkO O H → EnvR K (hid O H) σ ρ → f ρ = some dss →
  (∀ ps H', Same H H' → ps.Nodup → (∀ b ∈ ps, H b = none) → Inner K (hid (ps ++ O) H') H' ps dss → Q (ps.map V.ref) H') → t σ H Q
structure JAL (X : Cx) (K : PySem.W.Frag) (es : List Expr) (t : TA) (f : PNs) : Prop where
  pe : PA X es t
  pu : PuAL K t f
def pNilN : PNs := fun _ => some []
def pConsN (a : PAs) (r : PNs) : PNs := fun ρ => (a ρ).bind fun x => (r ρ).bind fun xs => some (x :: xs)
def pLstN (r : PNs) : PNs := fun ρ => (r ρ).bind fun xs => if fits xs.length = true then some xs else none
end
def compN (bd : D → PEnv → Option PEnv) (pt : PB) (fe : PAs) (ρ0 : PEnv) : List D → Option (List (List D))
  | [] => some []
  | d :: ds => (bd d ρ0).bind fun ρ1 => (pt ρ1).bind fun b => if b = true then (fe ρ1).bind fun e => (compN bd pt fe ρ0 ds).bind fun r => some (e :: r) else compN bd pt fe ρ0 ds
def pCompN (fi : PAs) (bd : D → PEnv → Option PEnv) (pt : PB) (fe : PAs) (n : Nat) (is : List Nat) : PNs := fun ρ => (fi ρ).bind fun items => if fits items.length = true then compN bd pt fe (compEnv n is ρ) items else none
section
variable {K : PySem.W.Frag} {wi : TI} {g : TG} {tc : TT} {te : TE} {fi : PAs} {bd : D → PEnv → Option PEnv} {pt : PB} {fe : PAs}
theorem Inner.snoc {G H : Hp} {p : Addr} {xs : List V} {ds : List D} (e : H p = some (.lst xs)) (r : RepAll K G xs ds) : ∀ {ps : List Addr} {dss : List (List D)}, Inner K G H ps dss → Inner K G H (ps ++ [p]) (dss ++ [ds])
  | _, _, .nil => .cons e r .nil
  | _, _, .cons e' r' t => .cons e' r' (Inner.snoc e r t)
theorem pu_compN (hi : PuI K wi fi) (hg : PuG K g bd) (ht : PuT K tc pt) (he : PuL K te fe) (n : Nat) (fv : List (Nat × Str)) : PuN K (tComp wi g tc te n fv) (pCompN fi bd pt fe n (fv.map (·.1))) := by
  intro O σ H ρ total Q ok er hf q
  obtain ⟨items, e1, hf⟩ := bind_some' hf
  by_cases hc : fits items.length = true
  case neg => rw [if_neg hc] at hf; cases hf
  rw [if_pos hc] at hf
  refine hi O σ H ρ items _ ok er e1 fun J H1 s1 it => fun D0 hD0 => ?_
  have hlt : items.length < sizeLine := of_decide_eq_true hc
  have okD : ∀ {H' : Hp} {ps : List Addr}, H' D0 ≠ none → (∀ a ∈ ps, ∃ xs, H' a = some (.lst xs)) → Same H1 H' → OkO ((D0 :: ps) ++ O) H' := fun {H' ps} hn hp s' a ha => by
    rcases List.mem_append.mp ha with ha | ha
    · rcases List.mem_cons.mp ha with rfl | ha
      · cases e : H' a with
        | none => exact absurd e hn
        | some o => exact ⟨o, rfl⟩
      · obtain ⟨xs, e⟩ := hp a ha
        exact ⟨_, e⟩
    · exact ((ok.mono s1).mono s') a ha
  have sD : ∀ {H' : Hp} {ps : List Addr}, Same H1 H' → (∀ a ∈ ps, H1 a = none) → Same (hid O H1) (hid ((D0 :: ps) ++ O) H') := fun {H' ps} s' hp => hid_big s' fun b hb => by
    rcases List.mem_append.mp hb with hb | hb
    · rcases List.mem_cons.mp hb with rfl | hb
      · exact .inr hD0
      · exact .inr (hp b hb)
    · exact .inl hb
  have er1 : EnvR K (hid O H1) σ ρ := er.hid s1
  have lenE : (compSt n fv σ).length = (compEnv n (fv.map (·.1)) ρ).length := by simp [compSt, compEnv]
  refine comp_n (n := items.length) (fun i ys H' => ∃ ps es rest, ys = ps.map V.ref ∧ H' D0 = some (.lst ys) ∧ Same H1 H' ∧ ps.length ≤ i ∧ (D0 :: ps).Nodup ∧ (∀ b ∈ ps, H1 b = none) ∧ Inner K (hid ((D0 :: ps) ++ O) H') H' ps es ∧ compN bd pt fe (compEnv n (fv.map (·.1)) ρ) (items.drop i) = some rest ∧ es ++ rest = total)
    ⟨[], [], total, rfl, upd_same, Same.new hD0, Nat.zero_le _, by simp, (fun b h => by cases h), .nil, by simpa using hf, rfl⟩ (fun i ys H' ⟨ps, es, rest, p⟩ => p.2.1)
    (fun i ys H' hi' ⟨ps, es, rest, p1, p2, p3, p4, p5, p6, p7, _⟩ => ((it ((D0 :: ps) ++ O) H' (okD (by rw [p2]; simp) p7.mem p3) (sD p3 p6)).1 i hi')) ?_ ?_
  · rintro i ys H' x H'' hi' ⟨ps, es, rest, rfl, hD', s', hy, ndp, hpn, inn, hcp, htot⟩ yl
    have ok' : OkO ((D0 :: ps) ++ O) H' := okD (by rw [hD']; simp) inn.mem s'
    obtain ⟨d, ed, s'', rd⟩ := (it ((D0 :: ps) ++ O) H' ok' (sD s' hpn)).2.1 i x H'' hi' yl
    have hdrop : items.drop i = d :: items.drop (i + 1) := by
      rw [List.drop_eq_getElem_cons hi']
      congr 1
      exact Option.some.inj ((List.getElem?_eq_getElem hi').symm.trans ed)
    rw [hdrop] at hcp
    obtain ⟨ρ1, eb, hcp⟩ := bind_some' hcp
    obtain ⟨b, et, hcp⟩ := bind_some' hcp
    have s2 := s'.trans s''
    have hD'' := s'' _ _ hD'
    have ok2 : OkO ((D0 :: ps) ++ O) H'' := ok'.mono s''
    refine hg ((D0 :: ps) ++ O) x d _ H'' _ ρ1 _ ok2 rd ((compEnv_r er1).mono (sD s2 hpn)) lenE eb fun σ2 hl2 er2 => ?_
    refine ht ((D0 :: ps) ++ O) σ2 H'' ρ1 b _ ok2 er2 et fun H3 s3 => ?_
    have s03 := s2.trans s3
    have hD3 := s3 _ _ hD''
    have inn3 : Inner K (hid ((D0 :: ps) ++ O) H3) H3 ps es := inn.mono (hid_same (s''.trans s3)) fun a _ o e => (s''.trans s3) a o e
    cases b with
    | false =>
      rw [if_neg Bool.false_ne_true] at hcp ⊢
      exact ⟨ps, es, rest, rfl, hD3, s03, by omega, ndp, hpn, inn3, hcp, htot⟩
    | true =>
      rw [if_pos rfl] at hcp ⊢
      obtain ⟨e, ee, hcp⟩ := bind_some' hcp
      obtain ⟨r, er', hcp⟩ := bind_some' hcp
      cases hcp
      refine he ((D0 :: ps) ++ O) σ2 H3 ρ1 e _ (ok2.mono s3) (er2.hid s3) ee fun p xs H4 s4 hp3 hp4 rv => ?_
      have hD4 := s4 _ _ hD3
      have s04 := s03.trans s4
      have hpD : p ≠ D0 := fun z => by rw [z, hD3] at hp3; cases hp3
      have hpps : p ∉ ps := fun z => by obtain ⟨_, e⟩ := inn3.mem p z; rw [hp3] at e; cases e
      refine ⟨hD4, by rw [List.length_map]; omega, ps ++ [p], es ++ [e], r, by simp, by simpa using upd_same, ?_, by rw [List.length_append]; show ps.length + 1 ≤ i + 1; omega, ?_, ?_, ?_, er', by rw [List.append_assoc]; exact htot⟩
      · intro b' o' eb'
        rw [upd_ne (ne_of_none eb' hD0)]
        exact s04 b' o' eb'
      · have ndp' := List.nodup_cons.mp ndp
        refine List.nodup_cons.mpr ⟨?_, ?_⟩
        · intro z
          rcases List.mem_append.mp z with z | z
          · exact ndp'.1 z
          · exact hpD (List.mem_singleton.mp z).symm
        · refine List.nodup_append.mpr ⟨ndp'.2, List.nodup_cons.mpr ⟨by simp, List.nodup_nil⟩, fun a ha b hb z => ?_⟩
          rw [List.mem_singleton] at hb
          exact hpps (by rw [← hb, ← z]; exact ha)
      · intro b hb
        rcases List.mem_append.mp hb with hb | hb
        · exact hpn b hb
        · rw [List.mem_singleton] at hb
          rw [hb]
          exact s03.free hp3
      · have m0 : D0 ∈ (D0 :: (ps ++ [p])) ++ O := by simp
        rw [hid_upd m0]
        refine Inner.snoc (xs := xs) (by rw [upd_ne hpD]; exact hp4) ?_ (inn3.mono (hid_big s4 fun b hb => ?_) fun a ha o e => ?_)
        · refine rv.mono (hid_sub fun b hb => ?_)
          simp only [List.cons_append, List.append_assoc, List.mem_cons, List.mem_append, List.not_mem_nil, or_false, false_or] at hb ⊢
          rcases hb with h | h | h | h
          · exact .inr (.inl h)
          · exact .inr (.inr (.inl h))
          · exact .inl h
          · exact .inr (.inr (.inr h))
        · simp only [List.cons_append, List.append_assoc, List.mem_cons, List.mem_append, List.not_mem_nil, or_false, false_or] at hb ⊢
          rcases hb with h | h | h | h
          · exact .inl (.inl h)
          · exact .inl (.inr (.inl h))
          · rw [h]; exact .inr hp3
          · exact .inl (.inr (.inr h))
        · rw [upd_ne fun z => (List.nodup_cons.mp ndp).1 (by rw [← z]; exact ha)]
          exact s4 a o e
  · rintro ys H' ⟨ps, es, rest, rfl, hD', s', hy, ndp, hpn, inn, hcp, htot⟩
    refine ⟨(it ((D0 :: ps) ++ O) H' (okD (by rw [hD']; simp) inn.mem s') (sD s' hpn)).2.2, ?_⟩
    rw [List.drop_length] at hcp
    cases hcp
    rw [List.append_nil] at htot
    subst htot
    refine q D0 ps H' (s1.trans s') ndp (fun b hb => ?_) hD' inn
    rcases List.mem_cons.mp hb with rfl | hb
    · exact s1.free hD0
    · exact s1.free (hpn b hb)
end
def vN (f : PNs) : SEnv → Option Sl := fun ρ => (f (masked ρ)).bind fun dss => some (.on dss)
section
variable {X : Cx} {K : PySem.W.Frag}
theorem pv_N {te : TE} {f : PNs} (h : PuN K te f) : PuV K te (vN f) := by
  intro H0 O0 G σ H ρ s Q ok t hf q
  obtain ⟨d, e1, hf⟩ := bind_some' hf
  cases hf
  obtain ⟨O, s0, n, nd, g, sl⟩ := t.ex
  have okA := okAll ok s0 sl
  refine h (O0 ++ O) σ H (masked ρ) d Q okA sl.mask e1 fun a ps H' s' nda hn ha r => ?_
  have big : Same (hid (O0 ++ O) H) (hid (O0 ++ ((a :: ps) ++ O)) H') := hid_big s' fun b hb => by
    rcases List.mem_append.mp hb with hb | hb
    · exact .inl (List.mem_append_left _ hb)
    · rcases List.mem_append.mp hb with hb | hb
      · exact .inr (hn b hb)
      · exact .inl (List.mem_append_right _ hb)
  refine q (.ref a) H' s' ⟨O, a :: ps, s0.trans s', n, nd, g.trans big, sl.mono big fun b _ o e => s' b o e, a, ps, rfl, rfl, nda, fun b hb => ⟨fun z => okA.fresh (hn b hb) (List.mem_append_right _ z), s0.free (hn b hb)⟩, ha, r.mono (hid_sub fun b hb => ?_) fun _ _ _ e => e⟩
  simp only [List.mem_append] at hb ⊢
  rcases hb with h | h | h <;> simp [h]
section
variable {i : Nat} {x : Str} {e : Expr} {te : TE} {pos pos' : Pos}
end
section
variable {tg elt iter : Expr} {ifs : List Expr} {scope : Scope} {wi : TI} {g : TG} {tc : TT} {te : TE} {fi : PAs} {bd : D → PEnv → Option PEnv} {pt : PB} {fe : PAs}
theorem js_setCompN {pos spos py : Pos} {i : Nat} {y : Str} (own : List Str) (fv : List (Nat × Str)) (hN : X.N.Nodup) (hy : X.N[i]? = some y) (hx : Loc X.env.scope y) (hc : X.calm = true) (hi : JI X K tg iter wi fi) (fo : FvOk X scope fv) (gk : GKeep own.length g)
    (bg : ∀ fp pins s H, JG (cxComp X (own ++ fv.map (·.2)) scope (clF X.env scope.names []) fp pins s H) K tg g bd)
    (bt : ∀ fp pins s H, JTs (cxComp X (own ++ fv.map (·.2)) scope (clF X.env scope.names []) fp pins s H) K ifs tc pt)
    (be : ∀ fp pins s H, JL (cxComp X (own ++ fv.map (·.2)) scope (clF X.env scope.names []) fp pins s H) K elt te fe)
    (kind : scope.kind = .function) (cell : ∀ y ∈ scope.names, y.2 ≠ .cell) (names : ∀ x ∈ scope.names, x.2 = .local → scope.names.lookup x.1 = some .local)
    (free : freeOk X scope = true)
    (hsw : swapsWith (.ListComp elt [⟨tg, iter, ifs, 0⟩] scope pos) (some (.Name y py)) spos.line X.env = pure true)
    (hs : ∀ x, foldedSetIterable iter X.env x = pure x := by intro _; rfl) (hf : X.fn y = true ∨ X.env.scope.names.lookup y = some .local := by first | exact Or.inl rfl | exact Or.inr rfl) :
    JS X K (.Assign [.Name y py] (.ListComp elt [⟨tg, iter, ifs, 0⟩] scope pos) spos) (tAsg (tComp wi g tc te own.length fv) (gName i)) (pSet i (vN (pCompN fi bd pt fe own.length (fv.map (·.1))))) :=
  js_set' (ps_setComp own fv hN hy hx hc hi.pe fo gk (fun fp pins s H => (bg fp pins s H).pe) (fun fp pins s H => (bt fp pins s H).pe) (fun fp pins s H => (be fp pins s H).pe) kind cell names free hsw hs hf)
    (pv_N (pu_compN hi.pu (bg [] [] X.s₀ X.H₀).pu (bt [] [] X.s₀ X.H₀).pu (be [] [] X.s₀ X.H₀).pu _ _))
end
theorem view_on (d : List (List D)) : Sl.view (.on d) = some (.list (d.map .list)) := rfl
theorem mask_on (d : List (List D)) : Sl.mask (.on d) = none := rfl
def asOn : Sl → Option (List (List D))
  | .on dss => some dss
  | _ => none
theorem asOn_on (d : List (List D)) : asOn (.on d) = some d := rfl
theorem asOn_eq {s : Sl} {d : List (List D)} (h : asOn s = some d) : s = .on d := by
  cases s with
  | on e => cases h; rfl
  | _ => cases h
def pSetII (i : Nat) (fi fj : PF) (vf : SEnv → Option Sl) : PSt := fun ρ => (vf ρ).bind fun s => (asSh s).bind fun d => (fi (full ρ)).bind fun kd => (asI kd).bind fun k => (fj (full ρ)).bind fun md => (asI md).bind fun m => (ρ[i]?).bind fun s' => (asOn s').bind fun dss =>
  (ixN dss.length k).bind fun u => (dss[u]?).bind fun ds => (ixN ds.length m).bind fun j => some (.nx (ρ.set i (.on (dss.set u (ds.set j d)))))
theorem StR.getOn {H0 : Hp} {O0 : List Addr} {G : Hp} {σ : St} {H : Hp} {ρ : SEnv} {i : Nat} {dss : List (List D)} (t : StR K H0 O0 G σ H ρ) (hi : ρ[i]? = some (.on dss)) : ∃ (a : Addr) (ps : List Addr), σ[i]? = some (some (.ref a)) ∧ H a = some (.lst (ps.map V.ref)) ∧ ps.length = dss.length := by
  obtain ⟨O, s0, n, nd, g, sl⟩ := t.ex
  obtain ⟨a, ps, h1, h2, h3, h4, h5⟩ := sl.getOn nd hi
  exact ⟨a, ps, h1, h4, h5.len⟩
theorem StR.writeN {H0 : Hp} {O0 : List Addr} {G : Hp} {σ : St} {H : Hp} {ρ : SEnv} {v : V} {d : D} {i u : Nat} {dss : List (List D)} {ds : List D} {a : Addr} {ps : List Addr} (t : StV K H0 O0 G σ H ρ v (.sh d)) (hi : ρ[i]? = some (.on dss)) (hu : dss[u]? = some ds) (h1 : σ[i]? = some (some (.ref a))) (h4 : H a = some (.lst (ps.map V.ref))) :
    ∃ p xs, ps[u]? = some p ∧ H p = some (.lst xs) ∧ xs.length = ds.length ∧ ∀ j, StR K H0 O0 G σ (upd H p (.lst (xs.set j v))) (ρ.set i (.on (dss.set u (ds.set j d)))) := by
  obtain ⟨O, P, s0, n, nd, g, sl, rfl, r⟩ := t.ex
  obtain ⟨a', ps', h1', h2, h3, h4', h5⟩ := sl.getOn nd hi
  rw [h1] at h1'
  cases h1'
  cases refs_inj h4 h4'
  obtain ⟨p, xs, q1, q2, q3⟩ := h5.get hu
  have hp : p ∈ O := h2 p (List.mem_cons_of_mem _ (List.mem_of_getElem? q1))
  have hpA : p ∈ O0 ++ ([] ++ O) := List.mem_append_right _ hp
  refine ⟨p, xs, q1, q2, q3.length, fun j => ⟨O, fun b o e => ?_, n, nd, ?_, ?_⟩⟩
  · rw [upd_ne (ne_of_none e (n p hp))]
    exact s0 b o e
  · rw [hid_upd (by simpa using hpA)]
    simpa using g
  · rw [hid_upd (by simpa using hpA)]
    have := sl.writeN (a := a) (ps := ps) (p := p) (j := u) (q3.set r j) nd hi h1 h4 q1
    simpa using this
theorem js_setII (i : Nat) {x : Str} {e ix jx : Expr} {te ti tj : TE} {fi fj : PF} {vf : SEnv → Option Sl} {p qpos spos pos : Pos} (he : PE X e te) (pv : PuV K te vf) (hK : X.K = K) (hi : JE X K ix ti fi) (hj : JE X K jx tj fj) (hsx : PlainIx ix) (hN : X.N[i]? = some x := by rfl) (hv : Vis X.env.scope x := by first | exact Or.inl rfl | exact Or.inr (Or.inl rfl) | exact Or.inr (Or.inr rfl)) (hd : (x == ("__debug__" : Str)) = false := by decide)
    (hcd : (x == ("__classdict__" : Str)) = false := by decide)
    (ha : ∀ v, assign (.Subscript (.Subscript (.Name x p) ix qpos) jx spos) X.env v = (do
      let ov ← holding [v] (eval (.Subscript (.Name x p) ix qpos) X.env)
      let iv ← holding [v, ov] (eval jx X.env)
      standAt spos
      holding [v, ov, iv] (setItem ov iv v)
      release [v, ov, iv] []) := by intro _; rfl)
    (hs : swapsWithSole [.Subscript (.Subscript (.Name x p) ix qpos) jx spos] e pos.line X.env = pure false := by rfl) (hw : swappedStores [.Subscript (.Subscript (.Name x p) ix qpos) jx spos] e X.env = pure none := by rfl)
    (h1 : (assignEach [.Subscript (.Subscript (.Name x p) ix qpos) jx spos] X.env).map (·.2) = [assign (.Subscript (.Subscript (.Name x p) ix qpos) jx spos) X.env] := by rfl) :
    JS X K (.Assign [.Subscript (.Subscript (.Name x p) ix qpos) jx spos] e pos) (tAsg te (gSub (tOp (rIx K) (tVar i) ti) tj rSetL)) (pSetII i fi fj vf) := ⟨ps_asg he (pg_sub (by subst hK; exact pe_ix ix_seq (pe_var hN hv hd hcd) hi.pe hsx) hj.pe set_list ha) hs hw h1, by
  intro H0 O0 G σ H ρ o E ok s hf q
  obtain ⟨sl, e1, hf⟩ := bind_some' hf
  obtain ⟨d, e2, hf⟩ := bind_some' hf
  obtain ⟨kd, e5, hf⟩ := bind_some' hf
  obtain ⟨k, e6, hf⟩ := bind_some' hf
  obtain ⟨md, e7, hf⟩ := bind_some' hf
  obtain ⟨m, e8, hf⟩ := bind_some' hf
  obtain ⟨sl2, e3, hf⟩ := bind_some' hf
  obtain ⟨dss, e4, hf⟩ := bind_some' hf
  obtain ⟨u, e9, hf⟩ := bind_some' hf
  obtain ⟨ds, e10, hf⟩ := bind_some' hf
  obtain ⟨j, e11, hf⟩ := bind_some' hf
  rw [asSh_eq e2] at e1
  rw [asOn_eq e4] at e3
  cases hf
  refine pv H0 O0 G σ H ρ _ _ ok s e1 fun v H' s' sv => ?_
  obtain ⟨a, ps, h1, h2, h3⟩ := sv.str.getOn e3
  refine ⟨_, h1, ?_⟩
  refine sv.str.evalF hi.pu ok e5 fun vi H2 s2 t2 ri => ?_
  have sv2 := sv.grow s2
  have h22 := s2 _ _ h2
  obtain ⟨p', xs', q1, q2, q3, _⟩ := StR.writeN sv2 e3 e10 h1 h22
  have hvi : vi = .int k := by
    cases ri with
    | int i => cases e6; rfl
    | _ => cases e6
  subst hvi
  refine .inl ⟨a, _, k, .ref p', rfl, rfl, SqL.of h22, ?_, ?_⟩
  · unfold L2.atI
    rw [List.length_map, h3, e9]
    show (ps.map V.ref)[u]? = _
    rw [List.getElem?_map, q1]
    rfl
  · refine sv2.str.evalF hj.pu ok e7 fun vj H3 s3 t3 rj => ?_
    have hvj : vj = .int m := by
      cases rj with
      | int i => cases e8; rfl
      | _ => cases e8
    subst hvj
    have sv3 := sv2.grow s3
    obtain ⟨p2, xs2, w1, w2, w3, w4⟩ := StR.writeN sv3 e3 e10 h1 (s3 _ _ h22)
    rw [q1] at w1
    cases w1
    exact ⟨p', xs2, m, j, rfl, rfl, w2, by rw [w3]; exact e11, q σ _ (w4 j)⟩⟩
def pRetON (i : Nat) : PSt := fun ρ => (ρ[i]?).bind fun s => (asOn s).bind fun dss => some (.rn dss)
theorem js_retON (i : Nat) {x : Str} {p pos : Pos} (hN : X.N[i]? = some x := by rfl) (hv : Vis X.env.scope x := by first | exact Or.inl rfl | exact Or.inr (Or.inl rfl) | exact Or.inr (Or.inr rfl)) (hd : (x == ("__debug__" : Str)) = false := by decide)
    (hcd : (x == ("__classdict__" : Str)) = false := by decide) : JS X K (.Return (some (.Name x p)) pos) (tRet (tVar i)) (pRetON i) := ⟨ps_ret (pe_var hN hv hd hcd), by
  intro H0 O0 G σ H ρ o E ok s hf q
  obtain ⟨sl, e1, hf⟩ := bind_some' hf
  obtain ⟨dss, e2, hf⟩ := bind_some' hf
  cases hf
  rw [asOn_eq e2] at e1
  obtain ⟨O, s0, n, nd, g, sl⟩ := s.ex
  obtain ⟨a, ps, h1, h2, h3, h4, h5⟩ := sl.getOn nd e1
  refine ⟨_, h1, q a ps H s0 h3 (fun b hb => n b (h2 b hb)) h4 (h5.mono (hid_sub fun b hb => ?_) fun _ _ _ e => e)⟩
  rcases List.mem_append.mp hb with hb | hb
  · exact List.mem_append_right _ (h2 b hb)
  · exact List.mem_append_left _ hb⟩
def pRetNN (f : PNs) : PSt := fun ρ => (f (full ρ)).bind fun d => some (.rn d)
def spN (K : PySem.W.Frag) (n : Nat) (f : List D → Option (List (List D))) : Sp := fun vs H Q _ => vs.length = n ∧ ∃ (O : List Addr) (ds : List D) (ess : List (List D)), OkO O H ∧ RepAll K (hid O H) vs ds ∧ f ds = some ess ∧
  ∀ a ps H', Same H H' → (a :: ps).Nodup → (∀ b ∈ a :: ps, H b = none) → H' a = some (.lst (ps.map V.ref)) → Inner K (hid ((a :: ps) ++ O) H') H' ps ess → Q (.ref a) H'
def outN : Out → Option (List (List D))
  | .rn dss => some dss
  | _ => none
def runN (n m : Nat) (F : PSt) : List D → Option (List (List D)) := fun ds => if ds.length = n then (F (startP m ds)).bind outN else none
theorem takesN (n m : Nat) (F : PSt) : Takes n (runN n m F) := fun ds a h => by
  unfold runN at h
  by_cases hc : ds.length = n
  · exact hc
  · rw [if_neg hc] at h; cases h
def pCallN (f : List D → Option (List (List D))) (r : PAs) : PNs := fun ρ => (r ρ).bind f
theorem jn_callC {k n : Nat} {x : Str} {ps : List Str} {p pos : Pos} {e : Expr} {es : List Expr} {t : TA} {r : PAs} {f : List D → Option (List (List D))} (C : Callee X.prog X.w X.K X.mg X.base k x ps (spN K n f)) (hf : Takes n f) (hr : Room k X.A) (hg : Gl X x) (ha : JA X K (e :: es) t r) (hdb : (x == ("__debug__" : Str)) = false := by decide)
    (hst : starEach (e :: es) X.env = (false, eval e X.env) :: starEach es X.env := by rfl) (hpl : (backTo pos (starEach es X.env)).any (·.1) = false := by rfl) : JN X K (.Call (.Name x p) (e :: es) [] pos) (tCall (spN K n f) [] E0 t) (pCallN f r) := ⟨pe_callC C hr hg ha.pe hdb hst hpl, by
  intro O σ H ρ d Q ok er h q
  obtain ⟨ds, e1, h⟩ := bind_some' h
  refine ha.pu O σ H ρ ds _ ok er e1 fun vs H1 s1 r1 => ?_
  rw [List.append_nil]
  exact ⟨by rw [r1.length]; exact hf ds d h, O, ds, d, ok.mono s1, r1, h, fun a ps H' s' nd hn ha' rv => q a ps H' (s1.trans s') nd (fun b hb => s1.free (hn b hb)) ha' rv⟩⟩
end
section
variable {P : Program} {w : World} {K : PySem.W.Frag} {mg : Str → Option Value} {base : Heap}
theorem Def.pureN {x : Str} {st : Stmt} {N ps : List Str} {k n m : Nat} {F : PSt} {fn : List D → Option (List (List D))} (hfn : fn = runN n m F) (D : Def K mg x st ps) (S : FnScope N ps (defScope st)) (hn : ps.length = n) (hm : N.length = m)
    (hb : ∀ (f : Addr) (cdv : Value) (A : Around) (outer : List Env) (s : Shared) (H : Hp) (E : XK), Room k (A.deeper (envOfC x (defScope st) s.heap.objs.size f cdv)) →
      ∃ t, JSs (cxOf CX0 P w K mg base N x (defScope st) f cdv A outer s H E).nox K (defBody st) t F) : Callee P w K mg base (k + 1) x ps (spN K n fn) := by
  subst hfn hm
  refine D.ok S (fun vs H Q E h => by rw [h.1, hn]) fun f cdv A outer s H vs Q E hr h => ?_
  obtain ⟨t, j⟩ := hb f cdv A outer s H E hr
  refine ⟨t, j.pe, ?_⟩
  obtain ⟨hl, O, ds, d, ok, r, hf, q⟩ := h
  have hl2 : ds.length = n := by rw [← r.length]; exact hl
  unfold runN at hf
  rw [if_pos hl2] at hf
  obtain ⟨o, e1, hf⟩ := bind_some' hf
  refine j.pu H O (hid O H) _ H _ o _ ok (str_start r N) e1 ?_
  cases o with
  | rn es => cases hf; exact fun a ps H' s' nd hn' ha r' => q a ps H' s' nd hn' ha r'
  | rl ess => cases hf
  | rp _ _ => cases hf
  | nx ρ => cases hf
  | rt d' => cases hf
  | bk ρ => cases hf
  | ct ρ => cases hf
end
section
variable {K : PySem.W.Frag} {G H : Hp}
end
def pClearN (i : Nat) : PSt := fun ρ => (ρ[i]?).bind fun s => (asOn s).bind fun _ => some (.nx (ρ.set i .no))
def pClearNI (i : Nat) (fi : PF) : PSt := fun ρ => (fi (full ρ)).bind fun kd => (asI kd).bind fun k => (ρ[i]?).bind fun s => (asOn s).bind fun dss => (ixN dss.length k).bind fun u => (dss[u]?).bind fun _ => some (.nx (ρ.set i (.on (dss.set u []))))
def pForClear (i j : Nat) : PSt := fun ρ => (ρ[i]?).bind fun s => (asOn s).bind fun _ => if j < ρ.length ∧ j ≠ i then some (.nx ((ρ.set i .no).set j .no)) else none
section
variable {X : Cx} {K : PySem.W.Frag} {pos : Pos}
end
section
variable {X : Cx} {K : PySem.W.Frag}
theorem js_setIIS (i : Nat) {x : Str} {e ix jx : Expr} {te ti tj : TE} {f fi fj : PF} {p qpos spos pos : Pos} (he : JE X K e te f) (hK : X.K = K) (hi : JE X K ix ti fi) (hj : JE X K jx tj fj) (hsx : PlainIx ix) (hN : X.N[i]? = some x := by rfl) (hv : Vis X.env.scope x := by first | exact Or.inl rfl | exact Or.inr (Or.inl rfl) | exact Or.inr (Or.inr rfl)) (hd : (x == ("__debug__" : Str)) = false := by decide)
    (hcd : (x == ("__classdict__" : Str)) = false := by decide)
    (ha : ∀ v, assign (.Subscript (.Subscript (.Name x p) ix qpos) jx spos) X.env v = (do
      let ov ← holding [v] (eval (.Subscript (.Name x p) ix qpos) X.env)
      let iv ← holding [v, ov] (eval jx X.env)
      standAt spos
      holding [v, ov, iv] (setItem ov iv v)
      release [v, ov, iv] []) := by intro _; rfl)
    (hs : swapsWithSole [.Subscript (.Subscript (.Name x p) ix qpos) jx spos] e pos.line X.env = pure false := by rfl) (hw : swappedStores [.Subscript (.Subscript (.Name x p) ix qpos) jx spos] e X.env = pure none := by rfl)
    (h1 : (assignEach [.Subscript (.Subscript (.Name x p) ix qpos) jx spos] X.env).map (·.2) = [assign (.Subscript (.Subscript (.Name x p) ix qpos) jx spos) X.env] := by rfl) :
    JS X K (.Assign [.Subscript (.Subscript (.Name x p) ix qpos) jx spos] e pos) (tAsg te (gSub (tOp (rIx K) (tVar i) ti) tj rSetL)) (pSetII i fi fj (vS f)) := js_setII i he.pe (pv_S he.pu) hK hi hj hsx hN hv hd hcd ha hs hw h1
theorem js_setILS (i : Nat) {x : Str} {e ix : Expr} {te ti : TE} {f : PAs} {fi : PF} {p spos pos : Pos} (he : JL X K e te f) (hi : JE X K ix ti fi) (hN : X.N[i]? = some x := by rfl) (hv : Vis X.env.scope x := by first | exact Or.inl rfl | exact Or.inr (Or.inl rfl) | exact Or.inr (Or.inr rfl)) (hd : (x == ("__debug__" : Str)) = false := by decide)
    (hcd : (x == ("__classdict__" : Str)) = false := by decide)
    (ha : ∀ v, assign (.Subscript (.Name x p) ix spos) X.env v = (do
      let ov ← holding [v] (eval (.Name x p) X.env)
      let iv ← holding [v, ov] (eval ix X.env)
      standAt spos
      holding [v, ov, iv] (setItem ov iv v)
      release [v, ov, iv] []) := by intro _; rfl)
    (hs : swapsWithSole [.Subscript (.Name x p) ix spos] e pos.line X.env = pure false := by rfl) (hw : swappedStores [.Subscript (.Name x p) ix spos] e X.env = pure none := by rfl)
    (h1 : (assignEach [.Subscript (.Name x p) ix spos] X.env).map (·.2) = [assign (.Subscript (.Name x p) ix spos) X.env] := by rfl) :
    JS X K (.Assign [.Subscript (.Name x p) ix spos] e pos) (tAsg te (gSub (tVar i) ti rSetL)) (pSetI i fi (vLS f)) := js_setI i he.pe (pv_LS he.pu) hi hN hv hd hcd ha hs hw h1
end
def pForF (fi : PAs) (bs : D → SEnv → Option SEnv) (F : PSt) : PSt := fun ρ => (fi (full ρ)).bind fun items => forP bs F items ρ
section
variable {X : Cx} {K : PySem.W.Frag} {pos : Pos}
theorem for_core {J : It} {g : TG} {tb : TS} {bs : D → SEnv → Option SEnv} {F : PSt} {items : List D} {H0 : Hp} {O0 : List Addr} {G : Hp} {σ : St} {H1 : Hp} {ρ : SEnv} {o : Out} {E : Ends} (it : ItOk K G J items) (hg : PuGS K g bs) (hb : PuS K tb F) (ok : OkO O0 H0) (t1 : StR K H0 O0 G σ H1 ρ) (hf : forP bs F items ρ = some o) (q : Post K H0 O0 G E o) :
    ∃ W : Nat → Nat → St → Hp → Prop, (∃ m, W 0 m σ H1) ∧ ∀ i m σ H, W i m σ H →
      (J.stop i H ∧ E.nx σ H) ∨ (J.go i H ∧ ∃ N : St → Hp → Prop, (∀ σ' H', N σ' H' → ∃ m', m' < m ∧ W (i + 1) m' σ' H') ∧ ∀ x H', J.yld i H x H' → g x σ H' fun σ2 H2 => tb { E with nx := N, ct := N, bk := E.nx } σ2 H2) := by
  refine ⟨fun i m σ H => m = items.length - i ∧ i ≤ items.length ∧ ∃ ρi, StR K H0 O0 G σ H ρi ∧ forP bs F (items.drop i) ρi = some o, ⟨items.length, by simp, Nat.zero_le _, ρ, t1, by simpa using hf⟩, ?_⟩
  rintro i m σ' H' ⟨rfl, hil, ρi, ti, hfi⟩
  obtain ⟨O', s0', n', nd', g', sl'⟩ := ti.ex
  have I := it (O0 ++ O') H' (okAll ok s0' sl') g'
  by_cases hlt : i < items.length
  · refine .inr ⟨I.1 i hlt, fun σ' H' => ∃ ρ', StR K H0 O0 G σ' H' ρ' ∧ forP bs F (items.drop (i + 1)) ρ' = some o, fun σ2 H2 ⟨ρ', t', h'⟩ => ⟨items.length - (i + 1), by omega, rfl, hlt, ρ', t', h'⟩, fun x H'' y => ?_⟩
    obtain ⟨d, ed, s'', rd⟩ := I.2.1 i x H'' hlt y
    have hdrop : items.drop i = d :: items.drop (i + 1) := by
      rw [List.drop_eq_getElem_cons hlt]
      congr 1
      exact Option.some.inj ((List.getElem?_eq_getElem hlt).symm.trans ed)
    rw [hdrop] at hfi
    obtain ⟨ρ1, eb, hfi⟩ := bind_some' hfi
    obtain ⟨o1, eo, hfi⟩ := bind_some' hfi
    have sv : StV K H0 O0 G σ' H'' ρi x (.sh d) := ⟨O', [], s0'.trans s'', n', nd', g'.trans (hid_same s''), sl'.mono (hid_same s'') fun a _ o e => s'' a o e, rfl, rd⟩
    refine hg H0 O0 _ σ' H'' ρi x d ρ1 _ sv eb fun σ2 t2 => ?_
    refine hb H0 O0 _ σ2 H'' ρ1 o1 _ ok t2 eo ?_
    cases o1 with
    | nx ρ' => exact fun σ3 H3 t3 => ⟨ρ', t3, hfi⟩
    | ct ρ' => exact fun σ3 H3 t3 => ⟨ρ', t3, hfi⟩
    | bk ρ' => cases hfi; exact fun σ3 H3 t3 => q σ3 H3 t3
    | rt d => cases hfi; exact q
    | rl d => cases hfi; exact q
    | rn d => cases hfi; exact q
    | rp d e => cases hfi; exact q
  · have e : i = items.length := by omega
    subst e
    rw [List.drop_length] at hfi
    cases hfi
    exact .inl ⟨I.2.2, q σ' H' ti⟩
theorem js_forR1 {tg a : Expr} {ta : TA} {r : PAs} {body : List Stmt} {g : TG} {tb : TS} {bs : D → SEnv → Option SEnv} {F : PSt} {p pos' : Pos} (hp : PassesOwn (model X.prog X.w) X.A X.env X.xe) (hc : X.calm = true) (hgl : Gl X "range") (hm : X.mg "range" = none) (ha : JA X K [a] ta r) (hg : JGS X K tg g bs) (hb : JSs X K body tb F)
    (hst : starEach [a] X.env = [(false, eval a X.env)] := by rfl) (hs : ∀ x, foldedSetIterable (.Call (.Name "range" p) [a] [] pos') X.env x = pure x := by intro _; rfl) :
    JS X K (.For tg (.Call (.Name "range" p) [a] [] pos') body [] pos) (tFor (iRng1 ta) g tb) (pForF (pCallL gRange1 r) bs F) := ⟨ps_for hp hc (pi_range1 hgl hm ha.pe hst) hg.pe hb.pe hs, by
  intro H0 O0 G σ H ρ o E ok s hf q
  obtain ⟨items, e1, hf⟩ := bind_some' hf
  obtain ⟨ds, e2, e1⟩ := bind_some' e1
  have ⟨o1, e3⟩ := s.envF ok
  refine ha.pu O0 σ H (full ρ) ds _ o1 e3 e2 fun vs H1 s1 r1 => ?_
  unfold gRange1 at e1
  split at e1
  · rename_i j
    obtain ⟨v, rfl, rv⟩ := rep1 r1
    cases rv
    by_cases hc : -(2 ^ 62) ≤ j ∧ j < 2 ^ 62
    · rw [if_pos hc] at e1
      cases e1
      exact ⟨j, rfl, hc.1, hc.2, for_core itok_range hg.pu hb.pu ok (s.grow s1) hf q⟩
    · rw [if_neg hc] at e1
      cases e1
  · cases e1⟩
end
end L2
set_option maxHeartbeats 4000000
namespace L2
open PySem PySem.Spec PyProof.Rows
section
variable {X : Cx} {K : PySem.W.Frag}
def asS : D → Option Str
  | .str z => some z
  | _ => none
theorem asS_str (z : Str) : asS (.str z) = some z := rfl
def pSlS (f : PF) (l u : PEnv → Option (Option Int)) : PF := fun ρ => (f ρ).bind fun d => (l ρ).bind fun lo => (u ρ).bind fun hi => (asS d).bind fun z => if z.length ≤ sizeLine then some (.str (Txt.slice z lo hi)) else none
def signD (x : Str) : List D := x.cps.toList.map fun c => .str ⟨#[c]⟩
def pItS (f : PF) : PAs := fun ρ => (f ρ).bind fun d => (asS d).bind fun z => if z.cps.all (· < 128) = true then some (signD z) else none
end
end L2
set_option maxHeartbeats 4000000
namespace L2
open PySem PySem.Spec PyProof.Rows
section
variable {X : Cx} {K : PySem.W.Frag}
def SplitOk (a b : Str) : Prop := (b.length == 0) = false ∧ a.length ≤ sizeLine ∧ (Txt.split a b).length ≤ sizeLine
instance (a b : Str) : Decidable (SplitOk a b) := instDecidableAnd
end
end L2
set_option maxHeartbeats 4000000
namespace L2
open PySem PySem.Spec PyProof.Rows
section
variable {X : Cx} {K : PySem.W.Frag}
def TimesOk (x : Str) (n : Int) : Prop := 1 < n ∧ n < 1000000 ∧ x.length ≠ 0 ∧ x.length * n.toNat ≤ 1000000
instance (x : Str) (n : Int) : Decidable (TimesOk x n) := instDecidableAnd
end
end L2
set_option maxHeartbeats 4000000
set_option hygiene false
local macro_rules | `(tactic| walk_at "pu") => `(tactic| simp only [L2.pSq, L2.pItS, L2.pSlS, L2.asS_str, L2.pSetII, L2.vN, L2.pRetON, L2.pRetNN, L2.pCallN, L2.pOfN, L2.pConsN, L2.pNilN, L2.pLstN, L2.pClearN, L2.pClearNI, L2.pForClear, L2.view_on, L2.mask_on, L2.asOn_on, L2.pSet, L2.vS, L2.vF, L2.vL, L2.vLF, L2.vLS, L2.vSL, L2.pOp, L2.pUn, L2.pVar, L2.pCon, L2.pTest, L2.pNotT, L2.pAndT, L2.pOrT, L2.pTrue, L2.pAnd, L2.pOr, L2.pNot, L2.pIf, L2.pChain, L2.pNil, L2.pCons, L2.pTup, L2.pLst, L2.pOfL, L2.pCall, L2.pCallL, L2.pIsi, L2.pRet, L2.pRetL, L2.pRetO, L2.pRetN, L2.pIfS, L2.pNx, L2.pDrop, L2.pApp, L2.pSetI, L2.pClear, L2.pSl, L2.pNoPart, L2.pPart, L2.pCat, L2.pItL, L2.pItT, L2.pAsg, L2.pRel, L2.full, L2.masked, L2.startP_eq,
  List.map_cons, List.map_nil, List.cons_append, List.nil_append, List.length_cons, List.length_nil, List.length_map, Nat.reduceAdd, Nat.reduceSub, Nat.zero_add, List.replicate_succ, List.replicate_zero, List.set_cons_succ, List.set_cons_zero, L2.getI0, L2.getIS, List.getElem?_cons_zero, List.getElem?_cons_succ, Option.join_some,
  L2.view_sh, L2.view_ow, L2.view_no, L2.mask_sh, L2.mask_ow, L2.mask_no, L2.bnd_some, L2.bnd_none, Option.map_some, L2.asB_bool, L2.asI_int, L2.asL_list, L2.asT_tup, L2.asSh_sh, L2.asOw_ow, L2.dAdd_int, L2.dSub_int, L2.dMul_int, L2.dMod_int, L2.dDiv_int, L2.dPow_ten, L2.tenP_pos, L2.dLt_int, L2.dLe_int, L2.dGt_int, L2.dGe_int, L2.dNeg_int, L2.dEq_int, L2.dNe_int, L2.dIx_list, L2.dIx_tup, L2.atI_zero, L2.atI_one, L2.atI_two,
  L2.gLen_list, L2.gLen_tup, L2.gList_list, L2.gList_tup, L2.gEnum_list, L2.gZip_list, L2.gMax_int, L2.gMin_int, L2.gInt_bool, L2.gInt_int, L2.flatD_int, L2.flatD_bool, L2.flatD_none, L2.flatD_tup, L2.flatAll_nil, L2.flatAll_cons, Bool.and_self, Bool.true_and, L2.ite_true', L2.ite_false', if_true, if_false, Bool.not_true, Bool.not_false, Bool.false_eq_true, L2.small_def, L2.fits_def, decide_true, decide_false, Bool.or_true, Bool.true_or, Bool.or_self, Bool.or_false, Bool.false_or, Bool.and_true, Bool.and_false, Bool.false_and, and_self, and_true, true_and, not_true_eq_false, not_false_eq_true, true_or, or_true, L2.dIsN, L2.dNotN, L2.isNon_none, L2.tyD_list, L2.tyD_tup, L2.tyD_bool, L2.tyD_int, L2.tyD_none, L2.subT_refl, L2.subT_ib, L2.subT_bi, eq_self, L2.dEq_ints_nil, L2.dEq_L_nil, L2.isNon_int, L2.isNon_list, L2.isNon_tup, L2.dEq_T, L2.dNe_T, L2.dNe_N, L2.dEq_N, L2.dEq_L, L2.dNe_L, L2.flat_T, L2.flat_Ts, Int.reduceLT, Int.reduceLE, Nat.reduceLT, Nat.reduceLeDiff, Int.reduceNeg, Int.reduceAdd, Int.reduceSub, Int.reduceMul, Nat.lt_irrefl, *])
set_option hygiene true
namespace LL
open PySem L2
def b__law_cell : PSt := (pSq (pIfS (pTest (pOp dLt (pVar 1) (pCall gLen (pCons (pVar 0) pNil))))
      (pRet (pOp dIx (pVar 0) (pVar 1))) pNx)
    (pRet (pCon (.int 0))))
def m__law_cell : List D → Option D := runF 2 2 b__law_cell
def b__law_spread : PSt := (pSq (pSet 1 (vS (pOp dMod (pOp dMul (pOp dAdd (pOp dMod (pVar 0) (pCon (.int 2147483629))) (pCon (.int 1))) (pCon (.int 1103515245))) (pCon (.int 2147483629)))))
    (pRet (pOp dAdd (pOp dMod (pOp dMul (pVar 1) (pVar 1)) (pCon (.int 2147483587))) (pOp dMul (pOp dMod (pVar 0) (pOp dPow (pCon (.int 10)) (pCon (.int 50)))) (pCon (.int 2147483587))))))
def m__law_spread : List D → Option D := runF 1 2 b__law_spread
def b__law_mixed : PSt := (pSq (pSet 2 (vS (pOp dMod (pOp dMul (pOp dAdd (pOp dMod (pVar 0) (pCon (.int 2147483629))) (pCon (.int 1))) (pCon (.int 1103515245))) (pCon (.int 2147483629)))))
    (pSq (pSet 2 (vS (pOp dMod (pOp dAdd (pOp dAdd (pOp dMul (pVar 2) (pVar 2)) (pOp dMul (pVar 1) (pCon (.int 69621)))) (pCon (.int 12345))) (pCon (.int 2147483587)))))
    (pRet (pOp dMod (pOp dMul (pVar 2) (pVar 2)) (pCon (.int 2147483629))))))
def m__law_mixed : List D → Option D := runF 2 3 b__law_mixed
def b__law_bounds : PSt := (pSq (pSet 1 (vS (pCall m__law_spread (pCons (pVar 0) pNil))))
    (pSq (pSet 2 (vS (pOp dIx (pOfL (pLst (pCons (pCon (.int 0)) (pCons (pCon (.int 1)) (pCons (pCon (.int 1)) (pCons (pCon (.int 2)) (pCons (pCon (.int 2)) (pCons (pCon (.int 2)) (pCons (pCon (.int 3)) (pCons (pCon (.int 4)) pNil)))))))))) (pOp dMod (pVar 1) (pCon (.int 8))))))
    (pSq (pSet 3 (vS (pOp dAdd (pCon (.int 1)) (pOp dMod (pOp dDiv (pVar 1) (pCon (.int 8))) (pOp dDiv (pCon (.int 20)) (pOp dAdd (pVar 2) (pCon (.int 2))))))))
    (pSq (pSet 4 (vS (pOp dMul (pVar 3) (pOp dAdd (pVar 2) (pCon (.int 2))))))
    (pSq (pSet 5 (vS (pOp dIx (pOfL (pLst (pCons (pOp dMod (pOp dDiv (pVar 1) (pCon (.int 320))) (pCon (.int 4))) (pCons (pOp dMod (pOp dDiv (pVar 1) (pCon (.int 320))) (pCon (.int 21))) pNil)))) (pOp dMod (pOp dDiv (pVar 1) (pCon (.int 160))) (pCon (.int 2))))))
    (pRet (pTup (pCons (pVar 2) (pCons (pOp dAdd (pVar 4) (pOp dMod (pVar 5) (pOp dSub (pCon (.int 21)) (pVar 4)))) (pCons (pVar 3) pNil))))))))))
def m__law_bounds : List D → Option D := runF 1 6 b__law_bounds
def b__law_two : PSt := (pRet (pOp dIx (pOfL (pLst (pCons (pCon (.int 1)) (pCons (pCon (.int 2)) (pCons (pCon (.int 4)) (pCons (pCon (.int 8)) (pCons (pCon (.int 16)) pNil))))))) (pVar 0)))
def m__law_two : List D → Option D := runF 1 1 b__law_two
def tw (h : Int) : Int := 2 ^ h.toNat
theorem tw_of {h : Int} (h0 : 0 ≤ h) (h4 : h ≤ 4) : (h = 0 ∧ tw h = 1) ∨ (h = 1 ∧ tw h = 2) ∨ (h = 2 ∧ tw h = 4) ∨ (h = 3 ∧ tw h = 8) ∨ (h = 4 ∧ tw h = 16) := by
  have : h = 0 ∨ h = 1 ∨ h = 2 ∨ h = 3 ∨ h = 4 := by omega
  rcases this with rfl | rfl | rfl | rfl | rfl
  · exact .inl ⟨rfl, rfl⟩
  · exact .inr (.inl ⟨rfl, rfl⟩)
  · exact .inr (.inr (.inl ⟨rfl, rfl⟩))
  · exact .inr (.inr (.inr (.inl ⟨rfl, rfl⟩)))
  · exact .inr (.inr (.inr (.inr ⟨rfl, rfl⟩)))
structure Bd (t w st : Int) : Prop where
  t0 : 0 ≤ t
  t4 : t ≤ 4
  s1 : 1 ≤ st
  lo : st * (t + 2) ≤ w
  hi : w ≤ 20
theorem Bd.w1 {t w st : Int} (b : Bd t w st) : 1 ≤ w := by
  have : st * 1 ≤ st * (t + 2) := Int.mul_le_mul_of_nonneg_left (by have := b.t0; omega) (by have := b.s1; omega)
  have := b.lo; have := b.s1; omega
def keysOf (ts : List Thing) : List Int := ts.filterMap fun t => t.map (·.1)
def Rises (ts : List Thing) : Prop := (keysOf ts).Pairwise (· < ·)
theorem at_mem {α : Type} (xs : List α) {i : Int} (h0 : 0 ≤ i) (h1 : i < xs.length) : ∃ v, v ∈ xs ∧ atI xs i = some v := by
  obtain ⟨j, rfl⟩ : ∃ j : Nat, i = (j : Int) := ⟨i.toNat, by omega⟩
  have hj : j < xs.length := by omega
  exact ⟨xs[j], List.getElem_mem hj, by rw [atI_ofNat]; simp [hj]⟩
theorem cell_ex (ns : List Int) {k : Int} (hk : 0 ≤ k) : ∃ c, m__law_cell [.list (ns.map .int), .int k] = some (.int c) := by
  by_cases h : k < (ns.map PyData.int).length
  · obtain ⟨v, hv, ev⟩ := at_mem (ns.map PyData.int) hk h
    obtain ⟨c, _, rfl⟩ := List.mem_map.mp hv
    refine ⟨c, runF_of (o := .rt (.int c)) rfl ?_ rfl⟩
    rw [List.length_map] at h
    clear hv
    unfold b__law_cell
    walk_at "pu"
  · refine ⟨0, runF_of (o := .rt (.int 0)) rfl ?_ rfl⟩
    rw [List.length_map] at h
    unfold b__law_cell
    walk_at "pu"
theorem m_pos (a : Int) {b : Int} (h : 0 < b) : 0 ≤ a % b ∧ a % b < b := ⟨Int.emod_nonneg _ (Int.ne_of_gt h), Int.emod_lt_of_pos _ h⟩
theorem spread_ex (c : Int) : ∃ z, m__law_spread [.int c] = some (.int z) ∧ 0 ≤ z := by
  have h1 := m_pos ((c % 2147483629 + 1) * 1103515245) (b := 2147483629) (by decide)
  have s1 : -18446744073709551616 < (c % 2147483629 + 1) * 1103515245 % 2147483629 ∧ (c % 2147483629 + 1) * 1103515245 % 2147483629 < 18446744073709551616 := ⟨by omega, by omega⟩
  refine ⟨(c % 2147483629 + 1) * 1103515245 % 2147483629 * ((c % 2147483629 + 1) * 1103515245 % 2147483629) % 2147483587 + c % tenP 50 * 2147483587, runF_of (o := .rt (.int _)) rfl ?_ rfl, ?_⟩
  · unfold b__law_spread
    walk_at "pu"
  · have := m_pos ((c % 2147483629 + 1) * 1103515245 % 2147483629 * ((c % 2147483629 + 1) * 1103515245 % 2147483629)) (b := 2147483587) (by decide)
    have := m_pos c (b := tenP 50) (tenP_pos _)
    omega
theorem mixed_ex (c k : Int) : ∃ z, m__law_mixed [.int c, .int k] = some (.int z) ∧ 0 ≤ z := by
  have h1 := m_pos ((c % 2147483629 + 1) * 1103515245) (b := 2147483629) (by decide)
  have s1 : -18446744073709551616 < (c % 2147483629 + 1) * 1103515245 % 2147483629 ∧ (c % 2147483629 + 1) * 1103515245 % 2147483629 < 18446744073709551616 := ⟨by omega, by omega⟩
  generalize hn : (c % 2147483629 + 1) * 1103515245 % 2147483629 = n at *
  have h2 := m_pos (n * n + k * 69621 + 12345) (b := 2147483587) (by decide)
  have s2 : -18446744073709551616 < (n * n + k * 69621 + 12345) % 2147483587 ∧ (n * n + k * 69621 + 12345) % 2147483587 < 18446744073709551616 := ⟨by omega, by omega⟩
  refine ⟨(n * n + k * 69621 + 12345) % 2147483587 * ((n * n + k * 69621 + 12345) % 2147483587) % 2147483629, runF_of (o := .rt (.int _)) rfl ?_ rfl, (m_pos _ (by decide)).1⟩
  unfold b__law_mixed
  walk_at "pu"
theorem two_eq {h : Int} (h0 : 0 ≤ h) (h4 : h ≤ 4) : m__law_two [.int h] = some (.int (tw h)) := by
  rcases tw_of h0 h4 with ⟨rfl, e⟩ | ⟨rfl, e⟩ | ⟨rfl, e⟩ | ⟨rfl, e⟩ | ⟨rfl, e⟩ <;> rw [e] <;> rfl
theorem bounds_ex (c : Int) : ∃ t w st, m__law_bounds [.int c] = some (.tuple [.int t, .int w, .int st]) ∧ Bd t w st := by
  obtain ⟨n, hn, _⟩ := spread_ex c
  have m8 := m_pos n (b := 8) (by decide)
  obtain ⟨v, hv, ev⟩ := at_mem ([.int 0, .int 1, .int 1, .int 2, .int 2, .int 2, .int 3, .int 4] : List D) (i := n % 8) m8.1 m8.2
  obtain ⟨t, rfl, t0, t4⟩ : ∃ t : Int, v = .int t ∧ 0 ≤ t ∧ t ≤ 4 := by
    simp only [List.mem_cons, List.mem_nil_iff, or_false] at hv
    rcases hv with e | e | e | e | e | e | e | e <;> exact ⟨_, e, by decide, by decide⟩
  have d20 : 0 < 20 / (t + 2) ∧ (20 / (t + 2)) * (t + 2) ≤ 20 ∧ 20 / (t + 2) < 1073741824 := by
    have : t = 0 ∨ t = 1 ∨ t = 2 ∨ t = 3 ∨ t = 4 := by omega
    rcases this with rfl | rfl | rfl | rfl | rfl <;> decide
  have q0 := m_pos (n / 8) d20.1
  have h1 : (1 + n / 8 % (20 / (t + 2))) ≤ 20 / (t + 2) := by omega
  have h2 : (1 + n / 8 % (20 / (t + 2))) * (t + 2) ≤ (20 / (t + 2)) * (t + 2) := Int.mul_le_mul_of_nonneg_right h1 (by omega)
  have m2 := m_pos (n / 160) (b := 2) (by decide)
  obtain ⟨v, hv, ev2⟩ := at_mem ([.int (n / 320 % 4), .int (n / 320 % 21)] : List D) (i := n / 160 % 2) m2.1 m2.2
  obtain ⟨mo, rfl⟩ : ∃ mo : Int, v = .int mo := by
    simp only [List.mem_cons, List.mem_nil_iff, or_false] at hv
    rcases hv with e | e <;> exact ⟨_, e⟩
  have st20 : (1 + n / 8 % (20 / (t + 2))) * 1 ≤ (1 + n / 8 % (20 / (t + 2))) * (t + 2) := Int.mul_le_mul_of_nonneg_left (by omega) (by omega)
  have s3 : -18446744073709551616 < 1 + n / 8 % (20 / (t + 2)) ∧ 1 + n / 8 % (20 / (t + 2)) < 18446744073709551616 := ⟨by omega, by omega⟩
  have s4 : 0 < t + 2 ∧ t + 2 < 1073741824 := ⟨by omega, by omega⟩
  have s5 : 0 < 21 - (1 + n / 8 % (20 / (t + 2))) * (t + 2) := by omega
  have q1 := m_pos mo (b := 21 - (1 + n / 8 % (20 / (t + 2))) * (t + 2)) (by omega)
  refine ⟨t, (1 + n / 8 % (20 / (t + 2))) * (t + 2) + mo % (21 - (1 + n / 8 % (20 / (t + 2))) * (t + 2)), 1 + n / 8 % (20 / (t + 2)), runF_of (o := .rt (.tuple _)) rfl ?_ rfl, ⟨t0, t4, by omega, by omega, by omega⟩⟩
  clear hv h1 h2 st20 q1 q0
  unfold b__law_bounds
  walk_at "pu"
end LL
set_option maxHeartbeats 4000000
namespace LL
open PySem L2
def b_is_straight : PSt := (pSq (pSet 1 (vSL (pComp (pItL (pVar 0)) (bd1 0) (pTest (pOp dNe (pVar 0) (pTup pNil))) (pOp dIx (pVar 0) (pCon (.int 0))) 1 [])))
    (pRet (pCall gAll (pCons (pOfL (pComp (pCallL gZip (pCons (pVar 1) (pCons (pOfL (pSl (pVar 1) (pPart (pCon (.int 1))) pNoPart)) pNil))) (bd2 0 1) pTrue (pOp dLt (pVar 0) (pVar 1)) 2 [])) pNil))))
def m_is_straight : List D → Option D := runF 1 2 b_is_straight
def l_second_place_1 : PSt := (pSq (pIfS (pAndT (pTest (pOp dNe (pVar 3) (pTup pNil))) (pTest (pOp dEq (pVar 3) (pVar 1))))
        (pRet (pVar 2)) pNx)
      (pIfS (pTest (pOp dNe (pVar 3) (pTup pNil)))
        (pSet 1 (vS (pVar 3))) pNx))
def b_second_place : PSt := (pSq (pSet 1 (vS (pTup pNil)))
    (pSq (pFor (pCallL gEnum (pCons (pVar 0) pNil)) (bs2 2 3) l_second_place_1)
    (pRet (pCon .none))))
def m_second_place : List D → Option D := runF 1 4 b_second_place
def l_done_1 : PSt := (pSetI 2 (pVar 3) (vS (pVar 4)))
def b_done : PSt := (pSq (pSet 2 (vL (pCallL gList (pCons (pVar 0) pNil))))
    (pSq (pFor (pItL (pVar 1)) (bs2 3 4) l_done_1)
    (pRetO 2)))
def m_done : List D → Option (List D) := runL 2 5 b_done
def b_mended : PSt := (pSq (pSet 1 (vS (pCall m_second_place (pCons (pVar 0) pNil))))
    (pSq (pIfS (pTest (pOp dIsN (pVar 1) (pCon .none)))
      (pRetL (pCallL gList (pCons (pVar 0) pNil))) pNx)
    (pRetL (pCallL m_done (pCons (pVar 0) (pCons (pOfL (pLst (pCons (pTup (pCons (pVar 1) (pCons (pTup pNil) pNil))) pNil))) pNil))))))
def m_mended : List D → Option (List D) := runL 1 2 b_mended
def b_rows_of : PSt := (pRetL (pComp (pItL (pOfL (pCallL m_mended (pCons (pVar 0) pNil)))) (bd1 0) (pTest (pOp dNe (pVar 0) (pTup pNil))) (pVar 0) 1 []))
def m_rows_of : List D → Option (List D) := runL 1 1 b_rows_of
def b_is_sound : PSt := (pRet (pCall m_is_straight (pCons (pOfL (pCallL m_mended (pCons (pVar 0) pNil))) pNil)))
def m_is_sound : List D → Option D := runF 1 1 b_is_sound
def things (ts : List Thing) : List (Int × Int) := ts.filterMap id
theorem keysOf_things (ts : List Thing) : keysOf ts = (things ts).map (·.1) := by
  unfold keysOf things
  rw [List.map_filterMap]
  rfl
theorem things_app (a b : List Thing) : things (a ++ b) = things a ++ things b := List.filterMap_append
theorem things_none (a : List Thing) : things (none :: a) = things a := rfl
theorem things_some (x : Int × Int) (a : List Thing) : things (some x :: a) = x :: things a := rfl
theorem keysOf_app (a b : List Thing) : keysOf (a ++ b) = keysOf a ++ keysOf b := List.filterMap_append
theorem keysOf_some (x : Int × Int) (a : List Thing) : keysOf (some x :: a) = x.1 :: keysOf a := rfl
theorem ixN_nat {n j : Nat} (h : j < n) : ixN n (j : Int) = some j := by
  unfold ixN
  rw [if_pos (by omega), if_pos (by omega)]
  simp
def encW (q : Nat × Thing) : D := .tuple [.int (q.1 : Nat), encD q.2]
def doneF (ts : List Thing) (ws : List (Nat × Thing)) : List Thing := ws.foldl (fun l q => l.set q.1 q.2) ts
theorem done_eq (ts : List Thing) (ws : List (Nat × Thing)) (h : ∀ q ∈ ws, q.1 < ts.length) : m_done [.list (ts.map encD), .list (ws.map encW)] = some ((doneF ts ws).map encD) := by
  have loop := for_inv (bs := bs2 3 4) (F := l_done_1) encW (fun (us : List Thing) ρ => us.length = ts.length ∧ ∃ s3 s4, ρ = [.sh (.list (ts.map encD)), .sh (.list (ws.map encW)), .ow (us.map encD), s3, s4]) (fun l q => l.set q.1 q.2) ws ?_ ts
    [.sh (.list (ts.map encD)), .sh (.list (ws.map encW)), .ow (ts.map encD), .no, .no] ⟨rfl, .no, .no, rfl⟩
  · obtain ⟨ρ', hf, _, s3, s4, rfl⟩ := loop
    refine runL_of rfl ?_
    unfold b_done
    refine sq_nx (ρ' := [.sh (.list (ts.map encD)), .sh (.list (ws.map encW)), .ow (ts.map encD), .no, .no]) (by walk_at "pu") ?_
    exact sq_nx ((for_eq (items := ws.map encW) (by walk_at "pu")).trans hf) (by walk_at "pu"; rfl)
  · rintro us ρ q hq ⟨hl, s3, s4, rfl⟩
    have hi := ixN_nat (n := ts.length) (j := q.1) (h q hq)
    refine ⟨_, [.sh (.list (ts.map encD)), .sh (.list (ws.map encW)), .ow ((us.map encD).set q.1 (encD q.2)), .sh (.int (q.1 : Nat)), .sh (encD q.2)], rfl, ?_, by simp [hl], .sh (.int (q.1 : Nat)), .sh (encD q.2), by rw [List.map_set]⟩
    unfold l_done_1
    walk_at "pu"
def secondF (last : Thing) : Nat → List Thing → Option Nat
  | _, [] => none
  | i, none :: r => secondF last (i + 1) r
  | i, some x :: r => if some x = last then some i else secondF (some x) (i + 1) r
def optI : Option Nat → D
  | none => .none
  | some n => .int (n : Nat)
theorem second_loop (L : D) : ∀ (ts : List Thing) (i : Nat) (last : Thing) (s2 s3 : Sl),
    match secondF last i ts with
    | some p => forP (bs2 2 3) l_second_place_1 (((ts.map encD).zipIdx i).map fun p => .tuple [.int (p.2 : Nat), p.1]) [.sh L, .sh (encD last), s2, s3] = some (.rt (.int (p : Nat)))
    | none => ∃ l' s2' s3', forP (bs2 2 3) l_second_place_1 (((ts.map encD).zipIdx i).map fun p => .tuple [.int (p.2 : Nat), p.1]) [.sh L, .sh (encD last), s2, s3] = some (.nx [.sh L, .sh l', s2', s3'])
  | [], i, last, s2, s3 => ⟨_, _, _, rfl⟩
  | none :: r, i, last, s2, s3 => by
    have ih := second_loop L r (i + 1) last (.sh (.int (i : Nat))) (.sh (encD none))
    have step : forP (bs2 2 3) l_second_place_1 ((((none :: r).map encD).zipIdx i).map fun p => .tuple [.int (p.2 : Nat), p.1]) [.sh L, .sh (encD last), s2, s3] = forP (bs2 2 3) l_second_place_1 (((r.map encD).zipIdx (i + 1)).map fun p => .tuple [.int (p.2 : Nat), p.1]) [.sh L, .sh (encD last), .sh (.int (i : Nat)), .sh (encD none)] := by
      rw [List.map_cons, List.zipIdx_cons, List.map_cons]
      refine forP_nx rfl ?_
      unfold l_second_place_1
      walk_at "pu"
    rw [step]
    exact ih
  | some x :: r, i, last, s2, s3 => by
    by_cases hx : some x = last
    · have e : secondF last i (some x :: r) = some i := if_pos hx
      rw [e]
      show forP _ _ _ _ = _
      rw [List.map_cons, List.zipIdx_cons, List.map_cons]
      refine forP_rt rfl ?_
      have hn : ¬ some x = none := by simp
      subst hx
      unfold l_second_place_1
      walk_at "pu"
    · have e : secondF last i (some x :: r) = secondF (some x) (i + 1) r := if_neg hx
      rw [e]
      have ih := second_loop L r (i + 1) (some x) (.sh (.int (i : Nat))) (.sh (encD (some x)))
      have step : forP (bs2 2 3) l_second_place_1 ((((some x :: r).map encD).zipIdx i).map fun p => .tuple [.int (p.2 : Nat), p.1]) [.sh L, .sh (encD last), s2, s3] = forP (bs2 2 3) l_second_place_1 (((r.map encD).zipIdx (i + 1)).map fun p => .tuple [.int (p.2 : Nat), p.1]) [.sh L, .sh (encD (some x)), .sh (.int (i : Nat)), .sh (encD (some x))] := by
        rw [List.map_cons, List.zipIdx_cons, List.map_cons]
        refine forP_nx rfl ?_
        have hn : ¬ some x = none := by simp
        clear ih e
        unfold l_second_place_1
        walk_at "pu"
      rw [step]
      exact ih
theorem second_eq (ts : List Thing) : m_second_place [.list (ts.map encD)] = some (optI (secondF none 0 ts)) := by
  have lp := second_loop (.list (ts.map encD)) ts 0 none .no .no
  have hb : b_second_place (startP 4 [.list (ts.map encD)]) = (forP (bs2 2 3) l_second_place_1 (((ts.map encD).zipIdx 0).map fun p => .tuple [.int (p.2 : Nat), p.1]) [.sh (.list (ts.map encD)), .sh (encD none), .no, .no]).bind fun o => match o with
      | .nx ρ' => pRet (pCon .none) ρ'
      | .rt d => some (.rt d)
      | .rl d => some (.rl d)
      | .rn d => some (.rn d)
      | .rp d e => some (.rp d e)
      | .bk ρ' => some (.bk ρ')
      | .ct ρ' => some (.ct ρ') := by
    unfold b_second_place
    refine sq_nx (ρ' := [.sh (.list (ts.map encD)), .sh (.tuple []), .no, .no]) (by walk_at "pu") ?_
    unfold pSq
    rw [for_eq (items := enumD (ts.map encD)) (by walk_at "pu")]
    rfl
  cases hs : secondF none 0 ts with
  | some p =>
    rw [hs] at lp
    have lp' : forP _ _ _ _ = _ := lp
    refine runF_of rfl (hb.trans ?_) (o := .rt (.int (p : Nat))) rfl
    rw [lp']
    rfl
  | none =>
    rw [hs] at lp
    obtain ⟨l', s2', s3', lp⟩ := lp
    refine runF_of rfl (hb.trans ?_) (o := .rt .none) rfl
    rw [lp]
    rfl
theorem secondF_lt (ts : List Thing) : ∀ (i : Nat) (last : Thing) (p : Nat), secondF last i ts = some p → i ≤ p ∧ p < i + ts.length := by
  induction ts with
  | nil => intro i last p h; cases h
  | cons t r ih =>
    intro i last p h
    cases t with
    | none => have := ih (i + 1) last p h; simp; omega
    | some x =>
      unfold secondF at h
      by_cases hx : some x = last
      · rw [if_pos hx] at h; cases h; simp
      · rw [if_neg hx] at h; have := ih (i + 1) (some x) p h; simp; omega
def mendF (ts : List Thing) : List Thing := match secondF none 0 ts with
  | none => ts
  | some p => ts.set p none
theorem mended_eq (ts : List Thing) : m_mended [.list (ts.map encD)] = some ((mendF ts).map encD) := by
  have hs := second_eq ts
  refine runL_of rfl ?_
  unfold b_mended mendF
  cases h : secondF none 0 ts with
  | none =>
    rw [h] at hs
    have hs' : m_second_place [.list (ts.map encD)] = some .none := hs
    clear hs
    walk_at "pu"
  | some p =>
    rw [h] at hs
    have hs' : m_second_place [.list (ts.map encD)] = some (.int (p : Nat)) := hs
    have hd : m_done [.list (ts.map encD), .list [.tuple [.int (p : Nat), .tuple []]]] = some ((ts.set p none).map encD) := done_eq ts [(p, none)] fun q hq => by
      rw [List.mem_singleton.mp hq]
      have := secondF_lt ts 0 none p h
      show p < _
      omega
    clear hs
    walk_at "pu"
def full' (t : Thing) : Bool := !decide (t = none)
theorem rows_eq (ts : List Thing) (hl : ts.length < 16777216) : m_rows_of [.list (ts.map encD)] = some (((mendF ts).filter full').map encD) := by
  refine runL_of rfl ?_
  have hm := mended_eq ts
  have hl2 : (mendF ts).length < 16777216 := by
    unfold mendF
    split
    · exact hl
    · simpa using hl
  unfold b_rows_of pRetL
  rw [comp_eq (items := (mendF ts).map encD) (by walk_at "pu") (by simpa using hl2)]
  rw [compP_map encD full' encD]
  · rfl
  · intro t _
    refine ⟨_, rfl, ?_, fun _ => rfl⟩
    show pTest _ [some (encD t)] = some (!decide (t = none))
    walk_at "pu"
theorem filt_keys (ts : List Thing) : (ts.filter full').map (fun t : Thing => PyData.int ((t.getD (0, 0)).1)) = (keysOf ts).map PyData.int := by
  induction ts with
  | nil => rfl
  | cons t r ih =>
    cases t with
    | none => exact ih
    | some x => rw [keysOf_some, List.map_cons, ← ih]; rfl
theorem adj_pair : ∀ K : List Int, ((K.zip (K.drop 1)).map fun p => decide (p.1 < p.2)).all id = decide (K.Pairwise (· < ·))
  | [] => by simp
  | [a] => by simp
  | a :: b :: r => by
    have ih := adj_pair (b :: r)
    have e : ((a :: b :: r).zip ((a :: b :: r).drop 1)) = (a, b) :: ((b :: r).zip ((b :: r).drop 1)) := rfl
    rw [e, List.map_cons, List.all_cons, ih]
    rw [Bool.eq_iff_iff]
    simp only [id, Bool.and_eq_true, decide_eq_true_eq]
    rw [List.pairwise_cons (a := a)]
    constructor
    · rintro ⟨h1, h2⟩
      refine ⟨fun c hc => ?_, h2⟩
      rcases List.mem_cons.mp hc with rfl | hc
      · exact h1
      · have := (List.pairwise_cons.mp h2).1 c hc
        omega
    · rintro ⟨h1, h2⟩
      exact ⟨h1 b List.mem_cons_self, h2⟩
theorem unB_map (bs : List Bool) : unB (bs.map PyData.bool) = some bs := by
  induction bs with
  | nil => rfl
  | cons b r ih => simp only [List.map_cons, unB, ih, bnd_some]
theorem cut1 (xs : List D) : cutD xs (some 1) none = xs.drop 1 := by
  unfold cutD
  cases xs with
  | nil => rfl
  | cons x r =>
    have e1 : HT.sIx (x :: r).length 0 (some 1) = 1 := by simp [HT.sIx]
    have e2 : HT.sIx (x :: r).length (x :: r).length none = (x :: r).length := by simp [HT.sIx]
    rw [e1, e2]
    rw [List.take_of_length_le (by simp)]
theorem zipD_ints (a b : List Int) : zipD (a.map PyData.int) (b.map PyData.int) = (a.zip b).map fun p => .tuple [.int p.1, .int p.2] := by
  unfold zipD
  rw [List.zipWith_map, List.zip_eq_zipWith, List.map_zipWith]
instance (ts : List Thing) : Decidable (Rises ts) := inferInstanceAs (Decidable ((keysOf ts).Pairwise (· < ·)))
theorem straight_eq (ts : List Thing) (hl : ts.length < 16777216) : m_is_straight [.list (ts.map encD)] = some (.bool (decide (Rises ts))) := by
  have hk : (keysOf ts).length < 16777216 := Nat.lt_of_le_of_lt (List.length_filterMap_le _ _) hl
  refine runF_of (o := .rt (.bool (decide (Rises ts)))) rfl ?_ rfl
  unfold b_is_straight
  refine sq_nx (ρ' := [.sh (.list (ts.map encD)), .sh (.list ((keysOf ts).map PyData.int))]) ?_ ?_
  · have hc : pComp (pItL (pVar 0)) (bd1 0) (pTest (pOp dNe (pVar 0) (pTup pNil))) (pOp dIx (pVar 0) (pCon (.int 0))) 1 [] [some (.list (ts.map encD)), none] = some ((keysOf ts).map PyData.int) := by
      rw [comp_eq (items := ts.map encD) rfl (by simpa using hl), compP_map encD full' (fun t : Thing => PyData.int ((t.getD (0, 0)).1)), filt_keys]
      intro t _
      refine ⟨_, rfl, ?_, fun h => ?_⟩
      · show pTest _ [some (encD t)] = some (!decide (t = none))
        walk_at "pu"
      · cases t with
        | none => cases h
        | some x => obtain ⟨k, w⟩ := x; rfl
    walk_at "pu"
  · have hc : pComp (pCallL gZip (pCons (pVar 1) (pCons (pOfL (pSl (pVar 1) (pPart (pCon (.int 1))) pNoPart)) pNil))) (bd2 0 1) pTrue (pOp dLt (pVar 0) (pVar 1)) 2 [] [some (.list (ts.map encD)), some (.list ((keysOf ts).map PyData.int))] = some (((keysOf ts).zip ((keysOf ts).drop 1)).map fun p => .bool (decide (p.1 < p.2))) := by
      have hz : (pCallL gZip (pCons (pVar 1) (pCons (pOfL (pSl (pVar 1) (pPart (pCon (.int 1))) pNoPart)) pNil))) [some (.list (ts.map encD)), some (.list ((keysOf ts).map PyData.int))] = some (((keysOf ts).zip ((keysOf ts).drop 1)).map fun p => .tuple [.int p.1, .int p.2]) := by
        rw [← zipD_ints, List.map_drop, ← cut1]
        walk_at "pu"
      rw [comp_eq hz (by rw [List.length_map, List.length_zip]; omega), compP_mapT (fun p : Int × Int => .tuple [.int p.1, .int p.2]) (fun p : Int × Int => .bool (decide (p.1 < p.2)))]
      intro p _
      exact ⟨_, rfl, rfl⟩
    have hg : gAll [.list (((keysOf ts).zip ((keysOf ts).drop 1)).map fun p => .bool (decide (p.1 < p.2)))] = some (.bool (decide (Rises ts))) := by
      have e : (((keysOf ts).zip ((keysOf ts).drop 1)).map fun p => PyData.bool (decide (p.1 < p.2))) = (((keysOf ts).zip ((keysOf ts).drop 1)).map fun p => decide (p.1 < p.2)).map PyData.bool := by rw [List.map_map]; rfl
      rw [e]
      show (unB _).bind _ = _
      rw [unB_map, bnd_some, adj_pair]
      rfl
    walk_at "pu"
theorem mendF_length (ts : List Thing) : (mendF ts).length = ts.length := by
  unfold mendF
  split
  · rfl
  · simp
theorem sound_eq (ts : List Thing) (hl : ts.length < 16777216) : m_is_sound [.list (ts.map encD)] = some (.bool (decide (Rises (mendF ts)))) := by
  have h1 := mended_eq ts
  have h2 := straight_eq (mendF ts) (by rw [mendF_length]; exact hl)
  refine runF_of (o := .rt (.bool (decide (Rises (mendF ts))))) rfl ?_ rfl
  unfold b_is_sound
  walk_at "pu"
theorem cutD_map {α : Type} (f : α → D) (xs : List α) (lo hi : Option Int) : ∃ ys : List α, cutD (xs.map f) lo hi = ys.map f ∧ ys.length ≤ xs.length := by
  refine ⟨(xs.drop (HT.sIx xs.length 0 lo)).take (HT.sIx xs.length xs.length hi - HT.sIx xs.length 0 lo), ?_, ?_⟩
  · unfold cutD
    rw [List.length_map, List.map_take, List.map_drop]
  · rw [List.length_take, List.length_drop]
    omega
theorem things_comp (ts : List Thing) (hl : ts.length < 16777216) {fi : PAs} {ρ : PEnv} (h : fi ρ = some (ts.map encD)) : pComp fi (bd1 0) (pTest (pOp dNe (pVar 0) (pTup pNil))) (pVar 0) 1 [] ρ = some ((ts.filter full').map encD) := by
  rw [comp_eq h (by simpa using hl), compP_map encD full' encD]
  intro t _
  refine ⟨_, rfl, ?_, fun _ => rfl⟩
  show pTest _ [some (encD t)] = some (!decide (t = none))
  walk_at "pu"
end LL
set_option maxHeartbeats 4000000
namespace LL
open PySem L2
abbrev Pr := Int × Int
abbrev PP := List (Nat × Pr)
def posT : Nat → List Thing → PP
  | _, [] => []
  | k, none :: r => posT (k + 1) r
  | k, some x :: r => (k, x) :: posT (k + 1) r
theorem posT_things : ∀ (s : List Thing) (k : Nat), (posT k s).map (·.2) = things s
  | [], _ => rfl
  | none :: r, k => posT_things r (k + 1)
  | some x :: r, k => by
    show x :: (posT (k + 1) r).map (·.2) = x :: things r
    rw [posT_things r (k + 1)]
structure Mv (s : List Thing) (c a : Nat) (x : Pr) (L R : PP) : Prop where
  eq : posT 0 s = L ++ (c, x) :: R
  ne : c ≠ a
  lt : a < s.length
  lo : ∀ p ∈ L, p.1 < c ∧ p.1 < a
  hi : ∀ p ∈ R, c < p.1 ∧ a < p.1
abbrev Tr := Nat × Nat × Pr
def mvW (s : List Thing) (t : Tr) : List Thing := (s.set t.2.1 (some t.2.2)).set t.1 none
inductive Run (P : List Thing → Tr → Prop) : List Thing → List Tr → List Thing → Prop
  | nil (s : List Thing) : Run P s [] s
  | cons {s s' : List Thing} {t : Tr} {l : List Tr} : P s t → Run P (mvW s t) l s' → Run P s (t :: l) s'
def Up (l : List Tr) : Prop := l.Pairwise fun a b => a.1 < b.1 ∧ a.2.1 < b.2.1
end LL
set_option maxHeartbeats 4000000
namespace LL
open PySem L2
def encP (x : Pr) : D := .tuple [.int x.1, .int x.2]
theorem filter_things (ts : List Thing) : (ts.filter full').map encD = (things ts).map encP := by
  induction ts with
  | nil => rfl
  | cons t r ih =>
    cases t with
    | none => exact ih
    | some x => rw [things_some, List.map_cons, ← ih]; rfl
theorem map_encP (X : List Pr) : X.map encP = (X.map some).map encD := by rw [List.map_map]; rfl
theorem dEq_PL (X Y : List Pr) : dEq (.list (X.map encP)) (.list (Y.map encP)) = some (.bool (decide (X = Y))) := by
  rw [map_encP, map_encP, dEq_L]
  have e : (X.map some = Y.map some) ↔ X = Y := List.map_inj_right (fun _ _ h => Option.some.inj h)
  rw [decide_eq_decide.mpr e]
theorem dNe_PL (X Y : List Pr) : dNe (.list (X.map encP)) (.list (Y.map encP)) = some (.bool (!decide (X = Y))) := by
  rw [map_encP, map_encP, dNe_L]
  have e : (X.map some = Y.map some) ↔ X = Y := List.map_inj_right (fun _ _ h => Option.some.inj h)
  rw [decide_eq_decide.mpr e]
def ddF (acc : List Pr) (x : Pr) : List Pr := if acc.getLast? = some x then acc else acc ++ [x]
def dd (X : List Pr) : List Pr := X.foldl ddF []
def RiseP (X : List Pr) : Prop := (X.map (·.1)).Pairwise (· < ·)
instance (X : List Pr) : Decidable (RiseP X) := inferInstanceAs (Decidable ((X.map (·.1)).Pairwise (· < ·)))
theorem atI_last {α : Type} {xs : List α} (h : xs ≠ []) : atI xs (-1) = xs.getLast? := by
  have hl : 0 < xs.length := List.length_pos_iff.mpr h
  unfold atI ixN
  rw [if_neg (by decide), if_pos (by omega), List.getLast?_eq_getElem?]
  show xs[(-1 + (xs.length : Int)).toNat]? = _
  congr 1
  omega
end LL
set_option maxHeartbeats 4000000
namespace LL
open PySem L2
structure EncOk {α : Type} [DecidableEq α] (e : α → D) (n : Nat) : Prop where
  lay : ∀ a, (e a).canLay0 = true
  dep : ∀ a, (e a).depth ≤ n
  eqv : ∀ a b, PyData.eqv (e a) (e b) = decide (a = b)
section
variable {α β : Type} [DecidableEq α] [DecidableEq β] {e : α → D} {f : β → D} {n m : Nat}
theorem EncOk.shaped (h : EncOk e n) (hn : n ≤ 64) (a : α) : SeqAt.shaped (e a) = true := by
  unfold SeqAt.shaped
  rw [h.lay a, Bool.true_and]
  exact decide_eq_true (Nat.le_trans (h.dep a) hn)
theorem EncOk.dEq (h : EncOk e n) (hn : n ≤ 64) (a b : α) : L2.dEq (e a) (e b) = some (.bool (decide (a = b))) := by
  unfold L2.dEq
  rw [if_pos ⟨h.shaped hn a, h.shaped hn b⟩, h.eqv]
theorem EncOk.dNe (h : EncOk e n) (hn : n ≤ 64) (a b : α) : L2.dNe (e a) (e b) = some (.bool (!decide (a = b))) := by
  unfold L2.dNe
  rw [if_pos ⟨h.shaped hn a, h.shaped hn b⟩, h.eqv]
theorem EncOk.all (h : EncOk e n) : ∀ xs : List α, PyData.canLayAll0 (xs.map e) = true ∧ PyData.depthAll (xs.map e) ≤ n
  | [] => by simp [PyData.canLayAll0, PyData.depthAll]
  | x :: r => by
    have h2 := EncOk.all h r
    simp only [List.map_cons, PyData.canLayAll0, PyData.depthAll, h.lay x, h2.1, Bool.and_self, true_and]
    have := h.dep x
    have := h2.2
    omega
theorem EncOk.eqvAll (h : EncOk e n) : ∀ xs ys : List α, PyData.eqvAll (xs.map e) (ys.map e) = decide (xs = ys)
  | [], [] => by simp [PyData.eqvAll]
  | [], _ :: _ => by simp [PyData.eqvAll]
  | _ :: _, [] => by simp [PyData.eqvAll]
  | x :: r, y :: q => by
    simp only [List.map_cons, PyData.eqvAll, h.eqv, EncOk.eqvAll h r q]
    by_cases h1 : x = y <;> by_cases h2 : r = q <;> simp [h1, h2]
theorem EncOk.list (h : EncOk e n) : EncOk (fun xs : List α => PyData.list (xs.map e)) (n + 1) :=
  ⟨fun xs => by simp only [PyData.canLay0]; exact (h.all xs).1, fun xs => by simp only [PyData.depth]; have := (h.all xs).2; omega, fun xs ys => by simp only [PyData.eqv]; exact h.eqvAll xs ys⟩
end
def natD (n : Nat) : D := .int (n : Int)
theorem enc_T : EncOk encD 1 := ⟨fun t => (canLay_T t).1, fun t => (canLay_T t).2, eqv_T⟩
structure MvOk (s : List Thing) (t : Tr) : Prop where
  free : s[t.2.1]? = some none
  lt : t.2.1 < s.length
  here : s[t.1]? = some (some t.2.2)
  mid : dd (things (s.set t.2.1 (some t.2.2))) = things s
  few : (things (s.set t.2.1 (some t.2.2))).length = (things s).length + 1
  fin : things (mvW s t) = things s
end LL
set_option maxHeartbeats 4000000
namespace LKa
open PySem L2
def b__law_key : PSt := (pSq (pSet 2 (vSL (pComp (pItL (pVar 0)) (bd1 0) (pTest (pOp dNe (pVar 0) (pTup pNil))) (pVar 0) 1 [])))
    (pSq (pSet 3 (vS (pOp dMod (pVar 1) (pOp dPow (pCon (.int 10)) (pCon (.int 58))))))
    (pSq (pIfS (pOrT (pTest (pOp dEq (pVar 2) (pOfL (pLst pNil)))) (pTest (pOp dEq (pOp dMod (pVar 1) (pCon (.int 5))) (pCon (.int 4)))))
      (pRet (pOp dIx (pOfL (pLst (pCons (pVar 3) (pCons (pUn dNeg (pVar 3)) pNil)))) (pOp dMod (pOp dDiv (pVar 1) (pCon (.int 5))) (pCon (.int 2))))) pNx)
    (pRet (pOp dAdd (pOp dIx (pOp dIx (pVar 2) (pOp dMod (pOp dDiv (pVar 1) (pCon (.int 5))) (pCall gLen (pCons (pVar 2) pNil)))) (pCon (.int 0))) (pOp dIx (pOfL (pLst (pCons (pUn dNeg (pCon (.int 1))) (pCons (pCon (.int 0)) (pCons (pCon (.int 1)) (pCons (pCon (.int 2)) pNil)))))) (pOp dMod (pOp dDiv (pVar 1) (pCon (.int 500))) (pCon (.int 4)))))))))
def m__law_key : List D → Option D := runF 2 4 b__law_key
end LKa
namespace LKb
open PySem L2
def b__law_key : PSt := (pSq (pSet 3 (vS (pOp dMod (pVar 1) (pOp dPow (pCon (.int 10)) (pCon (.int 50))))))
    (pSq (pIfS (pTest (pOp dEq (pVar 0) (pOfL (pLst pNil))))
      (pRet (pVar 3)) pNx)
    (pSq (pSet 4 (vS (pOp dMod (pOp dIx (pOfL (pLst (pCons (pOp dDiv (pVar 1) (pCon (.int 7))) (pCons (pOp dDiv (pCall gLen (pCons (pVar 0) pNil)) (pCon (.int 2))) pNil)))) (pCall gInt (pCons (pVar 2) pNil))) (pOp dAdd (pCall gLen (pCons (pVar 0) pNil)) (pCon (.int 1))))))
    (pSq (pSet 5 (vS (pOp dIx (pOfL (pLst (pCons (pCon (.int 1000)) (pCons (pOp dPow (pCon (.int 10)) (pCon (.int 48))) pNil)))) (pCall gInt (pCons (pOr (pVar 2) (pOp dEq (pOp dMod (pOp dDiv (pVar 1) (pCon (.int 7))) (pCon (.int 2))) (pCon (.int 1)))) pNil)))))
    (pSq (pIfS (pTest (pOp dEq (pVar 4) (pCon (.int 0))))
      (pRet (pOp dSub (pOp dSub (pOp dIx (pVar 0) (pCon (.int 0))) (pCon (.int 1))) (pOp dMod (pVar 3) (pVar 5)))) pNx)
    (pSq (pIfS (pTest (pOp dEq (pVar 4) (pCall gLen (pCons (pVar 0) pNil))))
      (pRet (pOp dAdd (pOp dAdd (pOp dIx (pVar 0) (pUn dNeg (pCon (.int 1)))) (pCon (.int 1))) (pOp dMod (pVar 3) (pVar 5)))) pNx)
    (pRet (pOp dAdd (pOp dAdd (pOp dIx (pVar 0) (pOp dSub (pVar 4) (pCon (.int 1)))) (pCon (.int 1))) (pOp dMod (pVar 3) (pCall gMax (pCons (pCon (.int 1)) (pCons (pOp dSub (pOp dSub (pOp dIx (pVar 0) (pVar 4)) (pOp dIx (pVar 0) (pOp dSub (pVar 4) (pCon (.int 1))))) (pCon (.int 1))) pNil))))))))))))
def m__law_key : List D → Option D := runF 3 6 b__law_key
end LKb
namespace LL
open PySem L2
def cnt (ts : List Thing) (a b : Nat) : Nat := (things ((ts.drop a).take (b - a))).length
end LL
namespace LKa
open PySem L2 LL
end LKa
namespace LKb
open PySem L2 LL
end LKb
namespace LL
open PySem L2
def beg (w s h : Nat) : Nat := s / (2 ^ h * w) * (2 ^ h * w)
def roomy (ts : List Thing) (w st s h : Nat) : Prop := (cnt ts (beg w s h) (beg w s h + 2 ^ h * w) : Int) < 2 ^ h * ((w : Int) - h * st)
end LL
namespace LL
open PySem L2
theorem tw_nat (k : Nat) : tw (k : Int) = ((2 ^ k : Nat) : Int) := by
  unfold tw
  rw [Int.toNat_natCast]
  exact (Int.natCast_pow 2 k).symm
theorem pw_ok {k w : Nat} (hk : k ≤ 4) (w1 : 1 ≤ w) (w20 : w ≤ 20) : 1 ≤ 2 ^ k * w ∧ 2 ^ k * w ≤ 320 := by
  have : k = 0 ∨ k = 1 ∨ k = 2 ∨ k = 3 ∨ k = 4 := by omega
  rcases this with rfl | rfl | rfl | rfl | rfl <;> omega
instance (ts : List Thing) (w st s h : Nat) : Decidable (roomy ts w st s h) := Int.decLt _ _
end LL
namespace LL
def cl (p n a : Nat) : Nat := (a * n + p - 1) / p
end LL
namespace LL
open PySem L2
theorem spreads_comp (cs : List Int) (hl : cs.length < 16777216) {fi : PAs} {ρ : PEnv} (h : fi ρ = some (cs.map PyData.int)) : ∃ zs : List Int, pComp fi (bd1 0) pTrue (pCall m__law_spread (pCons (pVar 0) pNil)) 1 [] ρ = some (zs.map PyData.int) ∧ zs.length = cs.length ∧ ∀ z ∈ zs, 0 ≤ z := by
  refine ⟨cs.map fun c => (spread_ex c).choose, ?_, List.length_map _, ?_⟩
  · rw [comp_eq h (by simpa using hl), compP_mapT PyData.int (fun c => .int (spread_ex c).choose), List.map_map]
    · rfl
    · intro c _
      exact ⟨_, rfl, (spread_ex c).choose_spec.1⟩
  · intro z hz
    obtain ⟨c, _, rfl⟩ := List.mem_map.mp hz
    exact (spread_ex c).choose_spec.2
theorem cut_ints (ns : List Int) (lo hi : Option Int) : ∃ cs : List Int, cutD (ns.map PyData.int) lo hi = cs.map PyData.int ∧ cs.length ≤ ns.length := cutD_map PyData.int ns lo hi
end LL
namespace LL
open PySem L2
theorem range_natD (n : Nat) (h : n < 16777216) : gRange1 [.int (n : Int)] = some ((List.range n).map fun i : Nat => .int (i : Int)) := by
  rw [gRange1_int _ ⟨by omega, by omega⟩]
  unfold rangeD
  rw [Int.toNat_natCast]
  congr 1
  apply List.map_congr_left
  intro i _
  show PyData.int (0 + (i : Int)) = .int (i : Int)
  rw [Int.zero_add]
end LL
set_option maxHeartbeats 4000000
namespace LL
open PySem L2
def l_twofold_1 : PSt := (pSet 1 (vS (pOp dMul (pVar 1) (pCon (.int 2)))))
def b_twofold : PSt := (pSq (pSet 1 (vS (pCon (.int 1))))
    (pSq (pFor (pCallL gRange1 (pCons (pVar 0) pNil)) (bs1 2) l_twofold_1)
    (pRet (pVar 1))))
def m_twofold : List D → Option D := runF 1 3 b_twofold
def b_places_of : PSt := (pSq (pSet 2 (vS (pOp dIx (pVar 0) (pCon (.int 1)))))
    (pRet (pOp dMul (pCall m_twofold (pCons (pVar 1) pNil)) (pVar 2))))
def m_places_of : List D → Option D := runF 2 3 b_places_of
def b_cap_of : PSt := (pSq (pSet 2 (vS (pOp dIx (pVar 0) (pCon (.int 1)))))
    (pSq (pSet 3 (vS (pOp dIx (pVar 0) (pCon (.int 2)))))
    (pRet (pOp dMul (pCall m_twofold (pCons (pVar 1) pNil)) (pOp dSub (pVar 2) (pOp dMul (pVar 3) (pVar 1)))))))
def m_cap_of : List D → Option D := runF 2 4 b_cap_of
theorem twofold_eq (h : Nat) (hh : h < 1000) : m_twofold [.int (h : Int)] = some (.int (2 ^ h)) := by
  have loop := for_range_inv (bs := bs1 2) (F := l_twofold_1) (lo := 0) (fun i ρ => ∃ s2, ρ = [.sh (.int (h : Int)), .sh (.int (2 ^ i)), s2]) h ?_ [.sh (.int (h : Int)), .sh (.int 1), .no] ⟨_, rfl⟩
  · obtain ⟨ρ', hf, s2, rfl⟩ := loop
    have hr := gRange1_int (h : Int) ⟨by omega, by omega⟩
    rw [Int.toNat_natCast] at hr
    generalize (2 : Int) ^ h = P at *
    refine runF_of (o := .rt (.int P)) rfl ?_ rfl
    unfold b_twofold
    refine sq_nx (ρ' := [.sh (.int (h : Int)), .sh (.int 1), .no]) (by clear hf; walk_at "pu") ?_
    refine sq_nx ((for_eq (items := rangeD 0 h) (by clear hf; walk_at "pu")).trans hf) (by clear hf hr; walk_at "pu")
  · rintro i ρ hi ⟨s2, rfl⟩
    rw [Int.zero_add]
    refine ⟨_, [.sh (.int (h : Int)), .sh (.int (2 ^ (i + 1))), .sh (.int (i : Int))], rfl, ?_, _, rfl⟩
    rw [Int.pow_succ]
    generalize (2 : Int) ^ i = P
    unfold l_twofold_1
    clear hi hh
    walk_at "pu"
theorem p2_small {h : Nat} (hh : h ≤ 4) : -18446744073709551616 < (2 : Int) ^ h ∧ (2 : Int) ^ h < 18446744073709551616 := by
  match h, hh with
  | 0, _ => decide
  | 1, _ => decide
  | 2, _ => decide
  | 3, _ => decide
  | 4, _ => decide
theorem places_eq {t : Int} {w st h : Nat} (hh : h ≤ 4) : m_places_of [.tuple [.int t, .int (w : Int), .int (st : Int)], .int (h : Int)] = some (.int ((2 ^ h * w : Nat) : Int)) := by
  have h2 := twofold_eq h (by omega)
  have hs := p2_small hh
  rw [Int.natCast_mul, Int.natCast_pow, show ((2 : Nat) : Int) = 2 from rfl]
  generalize (2 : Int) ^ h = P at *
  refine runF_of (o := .rt (.int _)) rfl ?_ rfl
  unfold b_places_of
  clear hh
  walk_at "pu"
theorem cap_eq {t : Int} {w st h : Nat} (hh : h ≤ 4) (st20 : st ≤ 20) : m_cap_of [.tuple [.int t, .int (w : Int), .int (st : Int)], .int (h : Int)] = some (.int (2 ^ h * ((w : Int) - (h : Int) * (st : Int)))) := by
  have h2 := twofold_eq h (by omega)
  have hs := p2_small hh
  have hs2 : -18446744073709551616 < (st : Int) ∧ (st : Int) < 18446744073709551616 := by omega
  rw [Int.mul_comm (h : Int) (st : Int)]
  generalize (2 : Int) ^ h = P at *
  refine runF_of (o := .rt (.int _)) rfl ?_ rfl
  unfold b_cap_of
  clear hh st20
  walk_at "pu"
end LL
set_option maxHeartbeats 4000000
namespace LL
open PySem L2
theorem erase_map {α β : Type} (f : α → β) : ∀ (xs : List α) (k : Nat), (xs.map f).eraseIdx k = (xs.eraseIdx k).map f
  | [], _ => rfl
  | _ :: _, 0 => rfl
  | x :: xs, k + 1 => congrArg (f x :: ·) (erase_map f xs k)
end LL
namespace LL
open PySem L2
end LL
set_option maxHeartbeats 4000000
namespace LL
open PySem L2
end LL
set_option maxHeartbeats 4000000
namespace LL
open PySem L2
def b_area_on : PSt := (pRet (pOp dIx (pOp dIx (pOp dIx (pVar 0) (pCon (.int 2))) (pCon (.int 0))) (pCon (.int 0))))
def m_area_on : List D → Option D := runF 1 1 b_area_on
def b_height_on : PSt := (pRet (pOp dIx (pOp dIx (pOp dIx (pVar 0) (pCon (.int 2))) (pCon (.int 0))) (pCon (.int 1))))
def m_height_on : List D → Option D := runF 1 1 b_height_on
def b_shelf_on : PSt := (pRetL (pSl (pOp dIx (pVar 1) (pCall m_area_on (pCons (pVar 1) pNil))) pNoPart (pPart (pCall m_places_of (pCons (pVar 0) (pCons (pCall m_height_on (pCons (pVar 1) pNil)) pNil))))))
def m_shelf_on : List D → Option (List D) := runL 2 2 b_shelf_on
def l__law_area_1 : PSt := (pSq (pSet 6 (vS (pCall m__law_mixed (pCons (pVar 0) (pCons (pOp dAdd (pOp dAdd (pOp dMul (pCon (.int 2)) (pVar 5)) (pVar 1)) (pCon (.int 500))) pNil)))))
      (pSq (pSet 7 (vS (pOp dSub (pOp dMod (pOp dDiv (pVar 6) (pCon (.int 3))) (pCon (.int 1000))) (pCon (.int 500)))))
      (pSq (pIfS (pAndT (pTest (pOp dNe (pVar 3) (pOfL (pLst pNil)))) (pTest (pOp dEq (pOp dMod (pOp dDiv (pVar 6) (pCon (.int 7))) (pCon (.int 2))) (pCon (.int 0)))))
        (pSet 7 (vS (pOp dSub (pOp dAdd (pOp dIx (pOp dIx (pVar 3) (pOp dMod (pOp dDiv (pVar 6) (pCon (.int 14))) (pCall gLen (pCons (pVar 3) pNil)))) (pCon (.int 0))) (pOp dMod (pOp dDiv (pVar 6) (pCon (.int 5))) (pCon (.int 3)))) (pCon (.int 1))))) pNx)
      (pApp 4 (vS (pOp dIx (pOfL (pLst (pCons (pTup pNil) (pCons (pTup (pCons (pVar 7) (pCons (pOp dMod (pOp dDiv (pVar 6) (pCon (.int 11))) (pOp dPow (pCon (.int 10)) (pCon (.int 6)))) pNil))) pNil)))) (pCall gInt (pCons (pOp dGt (pOp dMod (pVar 6) (pCon (.int 3))) (pCon (.int 0))) pNil))))))))
def b__law_area : PSt := (pSq (pSet 4 (vL (pLst pNil)))
    (pSq (pFor (pCallL gRange1 (pCons (pVar 2) pNil)) (bs1 5) l__law_area_1)
    (pRetO 4)))
def m__law_area : List D → Option (List D) := runL 4 8 b__law_area
def b__law_disk : PSt := (pSq (pSet 5 (vS (pOfL (pComp (pItL (pVar 3)) (bd1 0) (pTest (pOp dNe (pVar 0) (pTup pNil))) (pVar 0) 1 []))))
    (pSq (pSet 6 (vL (pComp (pCallL gRange1 (pCons (pCon (.int 2)) pNil)) (bd1 0) pTrue (pOfL (pCallL m__law_area (pCons (pVar 1) (pCons (pVar 0) (pCons (pOp dMul (pCall m__law_two (pCons (pOp dIx (pVar 3) (pCon (.int 0))) pNil)) (pOp dIx (pVar 3) (pCon (.int 1)))) (pCons (pVar 2) pNil)))))) 1 [4, 5, 0])))
    (pSq (pSetI 6 (pVar 2) (vLS (pCat (pVar 3) (pOfL (pSl (pOp dIx (pVar 6) (pVar 2)) (pPart (pCall gLen (pCons (pVar 3) pNil))) pNoPart)))))
    (pRetL (pLst (pCons (pOp dIx (pVar 6) (pCon (.int 0))) (pCons (pOp dIx (pVar 6) (pCon (.int 1))) (pCons (pOfL (pLst (pCons (pTup (pCons (pVar 2) (pCons (pVar 1) pNil))) pNil))) pNil))))))))
def m__law_disk : List D → Option (List D) := runL 5 7 b__law_disk
def b__law_cap : PSt := (pRet (pOp dMul (pCall m__law_two (pCons (pVar 1) pNil)) (pOp dSub (pOp dIx (pVar 0) (pCon (.int 1))) (pOp dMul (pVar 1) (pOp dIx (pVar 0) (pCon (.int 2)))))))
def m__law_cap : List D → Option D := runF 2 2 b__law_cap
def l__law_filled_2 : PSt := (pSq (pSet 8 (vS (pOp dSub (pOp dMod (pCall m__law_mixed (pCons (pVar 2) (pCons (pVar 7) pNil))) (pOp dIx (pOfL (pLst (pCons (pOp dPow (pCon (.int 10)) (pCon (.int 9))) (pCons (pCon (.int 3)) pNil)))) (pOp dMod (pVar 7) (pCon (.int 2))))) (pCon (.int 1)))))
      (pSetI 6 (pOp dIx (pVar 5) (pVar 7)) (vS (pTup (pCons (pOp dSub (pOp dMul (pOp dMul (pCon (.int 3)) (pVar 7)) (pOp dIx (pOfL (pLst (pCons (pCon (.int 1)) (pCons (pOp dPow (pCon (.int 10)) (pCon (.int 40))) pNil)))) (pOp dMod (pVar 2) (pCon (.int 2))))) (pOp dMod (pVar 2) (pOp dPow (pCon (.int 10)) (pCon (.int 57))))) (pCons (pVar 8) pNil))))))
def l__law_filled_1 : PSt := (pPopI 5 (pOp dMod (pOp dDiv (pCall m__law_mixed (pCons (pVar 2) (pCons (pCall gLen (pCons (pVar 5) pNil)) pNil))) (pCon (.int 7))) (pCall gLen (pCons (pVar 5) pNil))))
def b__law_filled : PSt := (pSq (pSet 4 (vS (pOp dMul (pCall m__law_two (pCons (pVar 1) pNil)) (pOp dIx (pVar 0) (pCon (.int 1))))))
    (pSq (pSet 5 (vL (pListRange (pCons (pVar 4) pNil))))
    (pSq (whileP (pTest (pOp dGt (pCall gLen (pCons (pVar 5) pNil)) (pCall gMax (pCons (pCon (.int 0)) (pCons (pVar 3) pNil))))) l__law_filled_1 1000000)
    (pSq (pSet 6 (vL (pComp (pCallL gRange1 (pCons (pVar 4) pNil)) (bd1 0) pTrue (pTup pNil) 1 [])))
    (pSq (pForF (pCallL gRange1 (pCons (pCall gLen (pCons (pVar 5) pNil)) pNil)) (bs1 7) l__law_filled_2)
    (pRetO 6))))))
def m__law_filled : List D → Option (List D) := runL 4 9 b__law_filled
def l__law_doubled_1 : PSt := (pSq (pApp 5 (vS (pVar 6)))
      (pSet 6 (vS (pOp dSub (pOp dAdd (pVar 6) (pCon (.int 1))) (pOp dMul (pCon (.int 2)) (pOp dMod (pOp dDiv (pVar 1) (pCon (.int 1000))) (pCon (.int 2))))))))
def b__law_doubled : PSt := (pSq (pSet 2 (vL (pCallL gList (pCons (pVar 0) pNil))))
    (pSq (pSet 3 (vSL (pComp (pCallL gRange1 (pCons (pCall gLen (pCons (pVar 0) pNil)) pNil)) (bd1 0) (pTest (pOp dNe (pOp dIx (pVar 1) (pVar 0)) (pTup pNil))) (pVar 0) 1 [0])))
    (pSq (pIfS (pTest (pOp dEq (pVar 3) (pOfL (pLst pNil))))
      (pRetO 2) pNx)
    (pSq (pSet 4 (vS (pOp dIx (pVar 3) (pOp dMod (pVar 1) (pCall gLen (pCons (pVar 3) pNil))))))
    (pSq (pSet 5 (vL (pLst (pCons (pVar 4) pNil))))
    (pSq (pSet 6 (vS (pOp dSub (pOp dAdd (pVar 4) (pCon (.int 1))) (pOp dMul (pCon (.int 2)) (pOp dMod (pOp dDiv (pVar 1) (pCon (.int 1000))) (pCon (.int 2)))))))
    (pSq (whileP (pAndT (pTest (pChain dLe dLt (pCon (.int 0)) (pVar 6) (pCall gLen (pCons (pVar 0) pNil)))) (pTest (pOp dEq (pOp dIx (pVar 0) (pVar 6)) (pTup pNil)))) l__law_doubled_1 1000000)
    (pSq (pSetI 2 (pOp dIx (pVar 5) (pOp dMod (pOp dDiv (pVar 1) (pCon (.int 2000))) (pCall gLen (pCons (pVar 5) pNil)))) (vS (pOp dIx (pVar 0) (pVar 4))))
    (pRetO 2)))))))))
def m__law_doubled : List D → Option (List D) := runL 2 7 b__law_doubled
end LL
set_option maxHeartbeats 4000000
namespace LL
open PySem L2
abbrev Dk := List (List Thing)
def encL (ts : List Thing) : D := .list (ts.map encD)
def encK (k : Dk) : D := .list (k.map encL)
def dsK (k : Dk) : List (List D) := k.map fun ts => ts.map encD
theorem enc_L : EncOk encL 2 := enc_T.list
theorem enc_K : EncOk encK 3 := enc_L.list
theorem atI_map {α β : Type} (f : α → β) (xs : List α) (i : Int) : atI (xs.map f) i = (atI xs i).map f := by
  unfold atI
  rw [List.length_map]
  cases ixN xs.length i with
  | none => rfl
  | some j => simp
theorem atI_nat' {α : Type} {xs : List α} {j : Nat} {x : α} (h : xs[j]? = some x) : atI xs (j : Int) = some x := by
  unfold atI
  rw [ixN_nat (List.getElem?_eq_some_iff.mp h).1]
  exact h
theorem ixK {k : Dk} {j : Nat} {A : List Thing} (h : k[j]? = some A) : dIx (encK k) (.int (j : Int)) = some (encL A) := by
  show atI (k.map encL) _ = _
  rw [atI_map, atI_nat' h]
  rfl
theorem ixD0 (x y : Int) : dIx (encD (some (x, y))) (.int 0) = some (.int x) := rfl
theorem ixD1 (x y : Int) : dIx (encD (some (x, y))) (.int 1) = some (.int y) := rfl
structure Dsk (k : Dk) (n a h : Nat) (A B : List Thing) : Prop where
  eq : k = [A, B, [some ((a : Int), (h : Int))]]
  lA : A.length = n
  lB : B.length = n
  a2 : a < 2
def areaF (k : Dk) (a : Nat) : List Thing := k.getD a []
theorem Dsk.ar {k : Dk} {n a h : Nat} {A B : List Thing} (d : Dsk k n a h A B) : k[a]? = some (areaF k a) ∧ (areaF k a).length = n := by
  obtain ⟨rfl, lA, lB, a2⟩ := d
  match a, a2 with
  | 0, _ => exact ⟨rfl, lA⟩
  | 1, _ => exact ⟨rfl, lB⟩
theorem Dsk.sg {k : Dk} {n a h : Nat} {A B : List Thing} (d : Dsk k n a h A B) : dIx (encK k) (.int 2) = some (encL [some ((a : Int), (h : Int))]) ∧ dIx (encL [some ((a : Int), (h : Int))]) (.int 0) = some (encD (some ((a : Int), (h : Int)))) := by
  obtain ⟨rfl, _⟩ := d
  exact ⟨rfl, rfl⟩
theorem area_on_eq {k : Dk} {n a h : Nat} {A B : List Thing} (d : Dsk k n a h A B) : m_area_on [encK k] = some (.int (a : Int)) := by
  obtain ⟨e1, e2⟩ := d.sg
  have e3 := ixD0 (a : Int) (h : Int)
  refine runF_of (o := .rt (.int (a : Int))) rfl ?_ rfl
  unfold b_area_on
  walk_at "pu"
theorem height_on_eq {k : Dk} {n a h : Nat} {A B : List Thing} (d : Dsk k n a h A B) : m_height_on [encK k] = some (.int (h : Int)) := by
  obtain ⟨e1, e2⟩ := d.sg
  have e3 := ixD1 (a : Int) (h : Int)
  refine runF_of (o := .rt (.int (h : Int))) rfl ?_ rfl
  unfold b_height_on
  walk_at "pu"
theorem cutD_take {α : Type} (f : α → D) (xs : List α) (n : Nat) : cutD (xs.map f) none (some (n : Int)) = (xs.take n).map f := by
  unfold cutD
  have e0 : HT.sIx (xs.map f).length 0 none = 0 := rfl
  rw [e0, List.drop_zero, ← List.map_take]
  have e1 : HT.sIx (xs.map f).length (xs.map f).length (some (n : Int)) = min n xs.length := by
    simp only [HT.sIx, List.length_map]
    rw [if_neg (by omega)]
    omega
  rw [e1, Nat.sub_zero]
  congr 1
  by_cases h : n ≤ xs.length
  · rw [Nat.min_eq_left h]
  · rw [Nat.min_eq_right (by omega), List.take_of_length_le (Nat.le_refl _), List.take_of_length_le (by omega)]
def shelfF (w : Nat) (k : Dk) (a h : Nat) : List Thing := (areaF k a).take (2 ^ h * w)
theorem shelf_on_eq {k : Dk} {n a h w st : Nat} {t : Int} {A B : List Thing} (d : Dsk k n a h A B) (h4 : h ≤ 4) : m_shelf_on [.tuple [.int t, .int (w : Int), .int (st : Int)], encK k] = some ((shelfF w k a h).map encD) := by
  have e1 := area_on_eq d
  have e2 := height_on_eq d
  have e3 := places_eq (t := t) (w := w) (st := st) h4
  have e4 := ixK d.ar.1
  have e5 : asL (encL (areaF k a)) = some ((areaF k a).map encD) := rfl
  have e6 := cutD_take encD (areaF k a) (2 ^ h * w)
  refine runL_of rfl ?_
  unfold b_shelf_on shelfF
  walk_at "pu"
theorem compN_list (dss : List (List D)) : compN (bd1 0) pTrue (pCallL gList (pCons (pVar 0) pNil)) [none] (dss.map PyData.list) = some dss := by
  induction dss with
  | nil => rfl
  | cons d r ih =>
    rw [List.map_cons]
    unfold compN
    rw [ih]
    rfl
theorem copyN {fi : PAs} {ρ : PEnv} {dss : List (List D)} (h : fi ρ = some (dss.map PyData.list)) (hl : dss.length < 16777216) : pCompN fi (bd1 0) pTrue (pCallL gList (pCons (pVar 0) pNil)) 1 [] ρ = some dss := by
  unfold pCompN
  rw [h]
  show (if fits (dss.map PyData.list).length = true then _ else _) = _
  rw [List.length_map, if_pos (fits_lit hl)]
  exact compN_list dss
theorem compP_list (dss : List (List D)) : compP (bd1 0) pTrue (pOfL (pCallL gList (pCons (pVar 0) pNil))) [none] (dss.map PyData.list) = some (dss.map PyData.list) := by
  induction dss with
  | nil => rfl
  | cons d r ih =>
    rw [List.map_cons]
    unfold compP
    rw [ih]
    rfl
theorem copyP {fi : PAs} {ρ : PEnv} {dss : List (List D)} (h : fi ρ = some (dss.map PyData.list)) (hl : dss.length < 16777216) : pComp fi (bd1 0) pTrue (pOfL (pCallL gList (pCons (pVar 0) pNil))) 1 [] ρ = some (dss.map PyData.list) := by
  unfold pComp
  rw [h]
  show (if fits (dss.map PyData.list).length = true then _ else _) = _
  rw [List.length_map, if_pos (fits_lit hl)]
  exact compP_list dss
theorem set_SL {f : PAs} {ρ : SEnv} {ds : List D} (i : Nat) (h : f (masked ρ) = some ds) : pSet i (vSL f) ρ = some (.nx (ρ.set i (.sh (.list ds)))) := by
  have e : pOfL f (masked ρ) = some (.list ds) := by
    show (f (masked ρ)).map PyData.list = _
    rw [h]
    rfl
  show ((pOfL f (masked ρ)).bind _).bind _ = _
  rw [e]
  rfl
theorem nilP (X : List Pr) : dNe (.list (X.map encP)) (.list []) = some (.bool (!decide (X = []))) := dNe_PL X []
theorem area_ex (c k : Int) (n : Nat) (X : List Pr) (hn : n ≤ 320) (hX : X.length ≤ 320) : ∃ A : List Thing, m__law_area [.int c, .int k, .int (n : Int), .list (X.map encP)] = some (A.map encD) ∧ A.length = n := by
  have loop := for_range_inv (lo := 0) (bs := bs1 5) (F := l__law_area_1)
    (fun i ρ => ∃ (A : List Thing) (s5 s6 s7 : Sl), ρ = [.sh (.int c), .sh (.int k), .sh (.int (n : Int)), .sh (.list (X.map encP)), .ow (A.map encD), s5, s6, s7] ∧ A.length = i)
    n ?_ [.sh (.int c), .sh (.int k), .sh (.int (n : Int)), .sh (.list (X.map encP)), .ow [], .no, .no, .no] ⟨[], _, _, _, rfl, rfl⟩
  · obtain ⟨ρ', hfor, A, s5, s6, s7, rfl, hl⟩ := loop
    refine ⟨A, runL_of rfl ?_, hl⟩
    have hr : gRange1 [.int (n : Int)] = some (rangeD 0 n) := gRange1_int _ ⟨by omega, by omega⟩
    unfold b__law_area
    refine sq_nx (ρ' := [.sh (.int c), .sh (.int k), .sh (.int (n : Int)), .sh (.list (X.map encP)), .ow [], .no, .no, .no]) (by walk_at "pu") ?_
    exact sq_nx ((for_eq (items := rangeD 0 n) (by walk_at "pu")).trans hfor) (by walk_at "pu")
  · rintro i ρ hi ⟨A, s5, s6, s7, rfl, hl⟩
    obtain ⟨m, hm, m0⟩ := mixed_ex c (2 * (0 + (i : Int)) + k + 500)
    have hi2 : i < 16777216 := by omega
    have hnil := nilP X
    have hi3 : -18446744073709551616 < (0 + (i : Int)) ∧ (0 + (i : Int)) < 18446744073709551616 := ⟨by omega, by omega⟩
    have last : ∀ key : Int, ∃ x : Thing, (pApp 4 (vS (pOp dIx (pOfL (pLst (pCons (pTup pNil) (pCons (pTup (pCons (pVar 7) (pCons (pOp dMod (pOp dDiv (pVar 6) (pCon (.int 11))) (pOp dPow (pCon (.int 10)) (pCon (.int 6)))) pNil))) pNil)))) (pCall gInt (pCons (pOp dGt (pOp dMod (pVar 6) (pCon (.int 3))) (pCon (.int 0))) pNil)))))
        [.sh (.int c), .sh (.int k), .sh (.int (n : Int)), .sh (.list (X.map encP)), .ow (A.map encD), .sh (.int (0 + (i : Int))), .sh (.int m), .sh (.int key)] = some (.nx [.sh (.int c), .sh (.int k), .sh (.int (n : Int)), .sh (.list (X.map encP)), .ow ((A ++ [x]).map encD), .sh (.int (0 + (i : Int))), .sh (.int m), .sh (.int key)]) := by
      intro key
      have lA : A.length < 16777216 := by omega
      by_cases h3 : 0 < m % 3
      · refine ⟨some (key, m / 11 % tenP 6), ?_⟩
        rw [List.map_append]
        show _ = some (Out.nx [_, _, _, _, .ow (A.map encD ++ [.tuple [.int key, .int (m / 11 % tenP 6)]]), _, _, _])
        clear hm hnil
        walk_at "pu"
      · refine ⟨none, ?_⟩
        rw [List.map_append]
        show _ = some (Out.nx [_, _, _, _, .ow (A.map encD ++ [.tuple []]), _, _, _])
        clear hm hnil
        walk_at "pu"
    by_cases hb : X ≠ [] ∧ m / 7 % 2 = 0
    · obtain ⟨b1, b2⟩ := hb
      have hXp : 0 < X.length := List.length_pos_iff.mpr b1
      have hmm := m_pos (m / 14) (b := (X.length : Int)) (by omega)
      obtain ⟨v, hv, ev⟩ := at_mem (X.map encP) (i := m / 14 % (X.length : Int)) hmm.1 (by rw [List.length_map]; exact hmm.2)
      obtain ⟨x, hx, rfl⟩ := List.mem_map.mp hv
      obtain ⟨kx, wx⟩ := x
      obtain ⟨y, hy⟩ := last (kx + m / 5 % 3 - 1)
      refine ⟨_, [.sh (.int c), .sh (.int k), .sh (.int (n : Int)), .sh (.list (X.map encP)), .ow ((A ++ [y]).map encD), .sh (.int (0 + (i : Int))), .sh (.int m), .sh (.int (kx + m / 5 % 3 - 1))], rfl, ?_, A ++ [y], _, _, _, rfl, by rw [List.length_append, hl]; rfl⟩
      have e0 : dIx (encP (kx, wx)) (.int 0) = some (.int kx) := rfl
      have hXp' : (0 : Int) < (X.length : Int) := by omega
      unfold l__law_area_1
      refine sq_nx (ρ' := [.sh (.int c), .sh (.int k), .sh (.int (n : Int)), .sh (.list (X.map encP)), .ow (A.map encD), .sh (.int (0 + (i : Int))), .sh (.int m), s7]) (by clear hnil hv ev hy e0; walk_at "pu") ?_
      refine sq_nx (ρ' := [.sh (.int c), .sh (.int k), .sh (.int (n : Int)), .sh (.list (X.map encP)), .ow (A.map encD), .sh (.int (0 + (i : Int))), .sh (.int m), .sh (.int (m / 3 % 1000 - 500))]) (by clear hm hnil hv ev hy e0; walk_at "pu") ?_
      refine sq_nx (ρ' := [.sh (.int c), .sh (.int k), .sh (.int (n : Int)), .sh (.list (X.map encP)), .ow (A.map encD), .sh (.int (0 + (i : Int))), .sh (.int m), .sh (.int (kx + m / 5 % 3 - 1))]) ?_ hy
      clear hm hv hy hmm hx hXp m0
      walk_at "pu"
    · obtain ⟨y, hy⟩ := last (m / 3 % 1000 - 500)
      refine ⟨_, [.sh (.int c), .sh (.int k), .sh (.int (n : Int)), .sh (.list (X.map encP)), .ow ((A ++ [y]).map encD), .sh (.int (0 + (i : Int))), .sh (.int m), .sh (.int (m / 3 % 1000 - 500))], rfl, ?_, A ++ [y], _, _, _, rfl, by rw [List.length_append, hl]; rfl⟩
      unfold l__law_area_1
      refine sq_nx (ρ' := [.sh (.int c), .sh (.int k), .sh (.int (n : Int)), .sh (.list (X.map encP)), .ow (A.map encD), .sh (.int (0 + (i : Int))), .sh (.int m), s7]) (by clear hnil hy hb; walk_at "pu") ?_
      refine sq_nx (ρ' := [.sh (.int c), .sh (.int k), .sh (.int (n : Int)), .sh (.list (X.map encP)), .ow (A.map encD), .sh (.int (0 + (i : Int))), .sh (.int m), .sh (.int (m / 3 % 1000 - 500))]) (by clear hm hnil hy hb; walk_at "pu") ?_
      refine sq_nx ?_ hy
      clear hm hy
      by_cases b1 : X = []
      · clear hb
        rw [decide_eq_true b1, Bool.not_true] at hnil
        clear b1
        walk_at "pu"
      · have b2 : ¬ m / 7 % 2 = 0 := fun z => hb ⟨b1, z⟩
        clear hb
        walk_at "pu"
theorem cutD_drop {α : Type} (f : α → D) (xs : List α) (n : Nat) : cutD (xs.map f) (some (n : Int)) none = (xs.drop n).map f := by
  unfold cutD
  have e0 : HT.sIx (xs.map f).length 0 (some (n : Int)) = min n xs.length := by
    simp only [HT.sIx, List.length_map]
    rw [if_neg (by omega)]
    omega
  have e1 : HT.sIx (xs.map f).length (xs.map f).length none = xs.length := by simp [HT.sIx]
  rw [e0, e1, ← List.map_drop, ← List.map_take]
  congr 1
  by_cases h : n ≤ xs.length
  · rw [Nat.min_eq_left h, List.take_of_length_le (by simp)]
  · rw [Nat.min_eq_right (by omega), List.drop_of_length_le (Nat.le_refl _), List.drop_of_length_le (by omega)]
    simp
theorem disk_ex {t w st : Nat} (c : Int) (h a : Nat) (ts : List Thing) (bd : Bd (t : Int) (w : Int) (st : Int)) (ha : a < 2) (hl : ts.length ≤ 2 ^ t * w) :
    ∃ A B : List Thing, m__law_disk [.tuple [.int (t : Int), .int (w : Int), .int (st : Int)], .int (h : Int), .int (a : Int), encL ts, .int c] = some ([A, B, [some ((a : Int), (h : Int))]].map encL) ∧ A.length = 2 ^ t * w ∧ B.length = 2 ^ t * w ∧ (areaF [A, B, [some ((a : Int), (h : Int))]] a).take ts.length = ts := by
  have t4 : t ≤ 4 := by have := bd.t4; omega
  have w20 : w ≤ 20 := by have := bd.hi; omega
  have hp : 2 ^ t ≤ 16 := by
    have : 2 ^ t ≤ 2 ^ 4 := Nat.pow_le_pow_right (by decide) t4
    omega
  have hN : 2 ^ t * w ≤ 320 := by
    have := Nat.mul_le_mul hp w20
    omega
  have hth : (things ts).length ≤ 320 := by
    have : (things ts).length ≤ ts.length := List.length_filterMap_le _ _
    omega
  obtain ⟨A0, hA, lA⟩ := area_ex c 0 (2 ^ t * w) (things ts) hN hth
  obtain ⟨B0, hB, lB⟩ := area_ex c 1 (2 ^ t * w) (things ts) hN hth
  have htwo := two_eq (h := (t : Int)) (by omega) (by omega)
  rw [tw_nat] at htwo
  have hmul : ((2 ^ t : Nat) : Int) * (w : Int) = ((2 ^ t * w : Nat) : Int) := by push_cast; rfl
  have hsm : -18446744073709551616 < ((2 ^ t : Nat) : Int) ∧ ((2 ^ t : Nat) : Int) < 18446744073709551616 := by
    generalize 2 ^ t = P at hp
    omega
  generalize hz : ((2 ^ t : Nat) : Int) = z at htwo hmul hsm
  generalize hz2 : 2 ^ t * w = N at *
  have hthings := things_comp ts (by omega) (fi := pItL (pVar 3)) (ρ := masked (startP 7 [.tuple [.int (t : Int), .int (w : Int), .int (st : Int)], .int (h : Int), .int (a : Int), encL ts, .int c])) rfl
  rw [filter_things] at hthings
  have hcomp : pComp (pCallL gRange1 (pCons (pCon (.int 2)) pNil)) (bd1 0) pTrue (pOfL (pCallL m__law_area (pCons (pVar 1) (pCons (pVar 0) (pCons (pOp dMul (pCall m__law_two (pCons (pOp dIx (pVar 3) (pCon (.int 0))) pNil)) (pOp dIx (pVar 3) (pCon (.int 1)))) (pCons (pVar 2) pNil)))))) 1 [4, 5, 0]
      (masked [.sh (.tuple [.int (t : Int), .int (w : Int), .int (st : Int)]), .sh (.int (h : Int)), .sh (.int (a : Int)), .sh (encL ts), .sh (.int c), .sh (.list ((things ts).map encP)), .no]) = some [encL A0, encL B0] := by
    refine (comp_eq (items := [.int 0, .int 1]) (by
      have : gRange1 [.int 2] = some [.int 0, .int 1] := by
        rw [show (PyData.int 2 : D) = .int ((2 : Nat) : Int) from rfl, gRange1_int _ ⟨by decide, by decide⟩]
        rfl
      walk_at "pu") (by decide)).trans ?_
    have hA' : m__law_area [.int c, .int 0, .int (N : Int), .list ((things ts).map encP)] = some (A0.map encD) := hA
    have hB' : m__law_area [.int c, .int 1, .int (N : Int), .list ((things ts).map encP)] = some (B0.map encD) := hB
    clear hthings hA hB hz hz2 bd
    simp only [compP, L2.compEnv, bd1, List.map_cons, List.map_nil, masked]
    walk_at "pu"
    rfl
  have lts := cutD_drop encD
  have hres : ∀ (A B : List Thing), some ([A, B, [some ((a : Int), (h : Int))]].map encL) = some [encL A, encL B, .list [.tuple [.int (a : Int), .int (h : Int)]]] := fun A B => rfl
  have hfl : ∀ A : List Thing, flatAll (A.map encD) = true := flat_Ts
  have run : ∀ (A B C : List Thing), (pSetI 6 (pVar 2) (vLS (pCat (pVar 3) (pOfL (pSl (pOp dIx (pVar 6) (pVar 2)) (pPart (pCall gLen (pCons (pVar 3) pNil))) pNoPart))))) [.sh (.tuple [.int (t : Int), .int (w : Int), .int (st : Int)]), .sh (.int (h : Int)), .sh (.int (a : Int)), .sh (encL ts), .sh (.int c), .sh (.list ((things ts).map encP)), .ow [encL A0, encL B0]]
      = some (.nx [.sh (.tuple [.int (t : Int), .int (w : Int), .int (st : Int)]), .sh (.int (h : Int)), .sh (.int (a : Int)), .sh (encL ts), .sh (.int c), .sh (.list ((things ts).map encP)), .ow [encL A, encL B]]) →
      m__law_disk [.tuple [.int (t : Int), .int (w : Int), .int (st : Int)], .int (h : Int), .int (a : Int), encL ts, .int c] = some ([A, B, [some ((a : Int), (h : Int))]].map encL) := by
    intro A B C hs
    refine runL_of rfl ?_
    unfold b__law_disk
    refine sq_nx (ρ' := [.sh (.tuple [.int (t : Int), .int (w : Int), .int (st : Int)]), .sh (.int (h : Int)), .sh (.int (a : Int)), .sh (encL ts), .sh (.int c), .sh (.list ((things ts).map encP)), .no]) ?_ ?_
    · show (vS (pOfL _) _).bind _ = _
      unfold vS pOfL
      rw [hthings]
      rfl
    · refine sq_nx (ρ' := [.sh (.tuple [.int (t : Int), .int (w : Int), .int (st : Int)]), .sh (.int (h : Int)), .sh (.int (a : Int)), .sh (encL ts), .sh (.int c), .sh (.list ((things ts).map encP)), .ow [encL A0, encL B0]]) ?_ ?_
      · show (vL _ _).bind _ = _
        unfold vL
        rw [hcomp]
        rfl
      · refine sq_nx hs ?_
        clear hs hcomp hthings hA hB
        walk_at "pu"
        rfl
  have eL : ∀ A : List Thing, asL (encL A) = some (A.map encD) := fun A => rfl
  have eln : gLen [encL ts] = some (.int (ts.length : Int)) := by show some (PyData.int ((ts.map encD).length : Int)) = _; rw [List.length_map]
  have hcat : ∀ A : List Thing, A.length = N → ts.length + (A.drop ts.length).length < 16777216 := fun A hA => by rw [List.length_drop]; omega
  match a, ha with
  | 0, _ =>
    refine ⟨ts ++ A0.drop ts.length, B0, run _ _ [] ?_, by rw [List.length_append, List.length_drop]; omega, lB, ?_⟩
    · have e1 := lts A0 ts.length
      have e2 := hcat A0 lA
      have e3 := hfl (ts ++ A0.drop ts.length)
      rw [List.map_append] at e3
      have e4 : dIx (.list [encL A0, encL B0]) (.int ((0 : Nat) : Int)) = some (encL A0) := rfl
      have e5 : ixN 2 ((0 : Nat) : Int) = some 0 := rfl
      have e6 : encL (ts ++ A0.drop ts.length) = .list (ts.map encD ++ (A0.drop ts.length).map encD) := by unfold encL; rw [List.map_append]
      rw [e6]
      clear run hres hcomp hthings hA hB hfl hcat lts
      walk_at "pu"
    · exact List.take_left' rfl
  | 1, _ =>
    refine ⟨A0, ts ++ B0.drop ts.length, run _ _ [] ?_, lA, by rw [List.length_append, List.length_drop]; omega, ?_⟩
    · have e1 := lts B0 ts.length
      have e2 := hcat B0 lB
      have e3 := hfl (ts ++ B0.drop ts.length)
      rw [List.map_append] at e3
      have e4 : dIx (.list [encL A0, encL B0]) (.int ((1 : Nat) : Int)) = some (encL B0) := rfl
      have e5 : ixN 2 ((1 : Nat) : Int) = some 1 := rfl
      have e6 : encL (ts ++ B0.drop ts.length) = .list (ts.map encD ++ (B0.drop ts.length).map encD) := by unfold encL; rw [List.map_append]
      rw [e6]
      clear run hres hcomp hthings hA hB hfl hcat lts
      walk_at "pu"
    · exact List.take_left' rfl
end LL
set_option maxHeartbeats 4000000
namespace LL
open PySem L2
def layP (P : PP) (s : List Thing) : List Thing := P.foldl (fun s p => s.set p.1 (some p.2)) s
theorem lay_all : ∀ (Y' X Z : List Thing), layP (posT X.length Y') (X ++ List.replicate Y'.length none ++ Z) = X ++ Y' ++ Z
  | [], X, Z => rfl
  | none :: r, X, Z => by
    have ih := lay_all r (X ++ [none]) Z
    rw [List.length_append] at ih
    show layP (posT (X.length + 1) r) (X ++ List.replicate (r.length + 1) none ++ Z) = _
    have e1 : X ++ List.replicate (r.length + 1) none ++ Z = X ++ [none] ++ List.replicate r.length none ++ Z := by rw [List.replicate_succ]; simp
    have e2 : X ++ none :: r ++ Z = X ++ [none] ++ r ++ Z := by simp
    rw [e1, e2]
    exact ih
  | some x :: r, X, Z => by
    have ih := lay_all r (X ++ [some x]) Z
    rw [List.length_append] at ih
    show layP (posT (X.length + 1) r) ((X ++ List.replicate (r.length + 1) none ++ Z).set X.length (some x)) = _
    have e1 : (X ++ List.replicate (r.length + 1) none ++ Z).set X.length (some x) = X ++ [some x] ++ List.replicate r.length none ++ Z := by
      rw [List.replicate_succ, List.append_assoc, List.set_append_right _ _ (Nat.le_refl _), Nat.sub_self]
      simp
    have e2 : X ++ some x :: r ++ Z = X ++ [some x] ++ r ++ Z := by simp
    rw [e1, e2]
    exact ih
theorem lay_len (P : PP) : ∀ s : List Thing, (layP P s).length = s.length := by
  unfold layP
  induction P with
  | nil => exact fun s => rfl
  | cons p P ih => intro s; rw [List.foldl_cons, ih]; simp
theorem pos_ex : ∀ (n k : Nat) (P : PP), P.Pairwise (fun a b => a.1 < b.1) → (∀ p ∈ P, k ≤ p.1 ∧ p.1 < k + n) → ∃ Y : List Thing, Y.length = n ∧ posT k Y = P
  | 0, k, [], _, _ => ⟨[], rfl, rfl⟩
  | 0, k, p :: P, _, h => by
    have := h p (.head _)
    omega
  | n + 1, k, [], _, _ => by
    obtain ⟨Y, h1, h2⟩ := pos_ex n (k + 1) [] .nil (fun p hp => by cases hp)
    exact ⟨none :: Y, by simp [h1], h2⟩
  | n + 1, k, p :: P, hs, h => by
    obtain ⟨hs1, hs2⟩ := List.pairwise_cons.mp hs
    by_cases hk : p.1 = k
    · obtain ⟨Y, h1, h2⟩ := pos_ex n (k + 1) P hs2 (fun q hq => by
        have a := hs1 q hq
        have b := h q (.tail _ hq)
        omega)
      refine ⟨some p.2 :: Y, by simp [h1], ?_⟩
      show (k, p.2) :: posT (k + 1) Y = p :: P
      rw [h2, ← hk]
    · obtain ⟨Y, h1, h2⟩ := pos_ex n (k + 1) (p :: P) hs (fun q hq => by
        have c := h p (.head _)
        have b := h q hq
        rcases List.mem_cons.mp hq with rfl | hq
        · omega
        · have a := hs1 q hq
          omega)
      exact ⟨none :: Y, by simp [h1], h2⟩
theorem rep_comp {fi : PAs} {W : Nat} (hW : W < 16777216) {ρ : PEnv} (h : fi ρ = some ((List.range W).map natD)) : pComp fi (bd1 0) pTrue (pTup pNil) 1 [] ρ = some ((List.replicate W (none : Thing)).map encD) := by
  rw [comp_eq h (by simpa using hW), compP_mapT natD (fun _ => encD none)]
  · congr 1
    rw [List.map_replicate, List.map_const', List.length_range]
  · intro i _
    exact ⟨_, rfl, rfl⟩
theorem for_eqF {fi : PAs} {bs : D → SEnv → Option SEnv} {F : PSt} {ρ : SEnv} {items : List D} (h : fi (full ρ) = some items) : pForF fi bs F ρ = forP bs F items ρ := by
  unfold pForF
  rw [h]
  rfl
theorem filled_ex {t : Int} {w st hh : Nat} (c more : Int) (bd : Bd t (w : Int) (st : Int)) (h4 : hh ≤ 4) : ∃ ts : List Thing, m__law_filled [.tuple [.int t, .int (w : Int), .int (st : Int)], .int (hh : Int), .int c, .int more] = some (ts.map encD) ∧ Rises ts ∧ ts.length = 2 ^ hh * w ∧
    ((keysOf ts).length : Int) = min ((2 ^ hh * w : Nat) : Int) (max 0 more) := by
  have w1 := bd.w1
  have w20 := bd.hi
  have hz := pw_ok (k := hh) (w := w) h4 (by omega) (by omega)
  have htwo := two_eq (h := (hh : Int)) (by omega) (by omega)
  have hTw : tw (hh : Int) * (w : Int) = ((2 ^ hh * w : Nat) : Int) := by rw [tw_nat, Int.natCast_mul]
  have hTs : -18446744073709551616 < tw (hh : Int) ∧ tw (hh : Int) < 18446744073709551616 := by
    rcases tw_of (h := (hh : Int)) (by omega) (by omega) with e | e | e | e | e <;> omega
  have hhs : -18446744073709551616 < (hh : Int) ∧ (hh : Int) < 18446744073709551616 := by omega
  generalize hT2 : tw (hh : Int) = T2 at *
  generalize hSz : 2 ^ hh * w = Z at *
  obtain ⟨many, hmany⟩ : ∃ many : Nat, min (Z : Int) (max 0 more) = (many : Int) := ⟨(min (Z : Int) (max 0 more)).toNat, by omega⟩
  have hmz : many ≤ Z := by omega
  have hg : gRange1 [.int (Z : Int)] = some ((List.range Z).map natD) := range_natD Z (by omega)
  have wh := while_idx (c := pTest (pOp dGt (pCall gLen (pCons (pVar 5) pNil)) (pCall gMax (pCons (pCon (.int 0)) (pCons (pVar 3) pNil))))) (F := l__law_filled_1) Z
    (fun k ρ => ∃ A : List Nat, ρ = [.sh (.tuple [.int t, .int (w : Int), .int (st : Int)]), .sh (.int (hh : Int)), .sh (.int c), .sh (.int more), .sh (.int (Z : Int)), .ow (A.map natD), .no, .no, .no] ∧ A.Pairwise (· < ·) ∧ (∀ a ∈ A, a < Z) ∧ A.length + k = Z ∧ many ≤ A.length) ?_ 1000000 0
    [.sh (.tuple [.int t, .int (w : Int), .int (st : Int)]), .sh (.int (hh : Int)), .sh (.int c), .sh (.int more), .sh (.int (Z : Int)), .ow ((List.range Z).map natD), .no, .no, .no] ⟨List.range Z, rfl, List.pairwise_lt_range, fun a ha => List.mem_range.mp ha, by simp, by simpa using hmz⟩ (Nat.zero_le _) (by omega)
  · obtain ⟨k, ρ', hw, ⟨A, rfl, h1, h2, h3, h4'⟩, hend, _⟩ := wh
    have hAl : A.length = many := by
      have he : (pTest (pOp dGt (pCall gLen (pCons (pVar 5) pNil)) (pCall gMax (pCons (pCon (.int 0)) (pCons (pVar 3) pNil))))) (full [.sh (.tuple [.int t, .int (w : Int), .int (st : Int)]), .sh (.int (hh : Int)), .sh (.int c), .sh (.int more), .sh (.int (Z : Int)), .ow (A.map natD), .no, .no, .no]) = some (decide (max 0 more < (A.length : Int))) := by
        clear hend hw htwo hTw hT2 hSz hmany hg h2 hz
        walk_at "pu"
      rw [he] at hend
      have := of_decide_eq_false (Option.some.inj hend)
      omega
    have mc := m_pos c (b := 2) (by decide)
    obtain ⟨v, hv, ev⟩ := at_mem ([.int 1, .int (tenP 40)] : List D) (i := c % 2) mc.1 mc.2
    obtain ⟨mu, rfl, mu0⟩ : ∃ mu : Int, v = .int mu ∧ 0 < mu := by
      simp only [List.mem_cons, List.mem_nil_iff, or_false] at hv
      rcases hv with rfl | rfl
      · exact ⟨1, rfl, by decide⟩
      · exact ⟨_, rfl, tenP_pos _⟩
    have lp := for_range_inv (bs := bs1 7) (F := l__law_filled_2) (lo := 0)
      (fun i ρ => ∃ (P : PP) (s9 s10 : Sl), ρ = [.sh (.tuple [.int t, .int (w : Int), .int (st : Int)]), .sh (.int (hh : Int)), .sh (.int c), .sh (.int more), .sh (.int (Z : Int)), .ow (A.map natD), .ow ((layP P (List.replicate Z none)).map encD), s9, s10] ∧ P.map (·.1) = A.take i ∧ P.map (fun p => p.2.1) = (List.range i).map (fun j : Nat => 3 * (j : Int) * mu - c % tenP 57)) many ?_
      [.sh (.tuple [.int t, .int (w : Int), .int (st : Int)]), .sh (.int (hh : Int)), .sh (.int c), .sh (.int more), .sh (.int (Z : Int)), .ow (A.map natD), .ow ((List.replicate Z (none : Thing)).map encD), .no, .no] ⟨[], _, _, rfl, rfl, rfl⟩
    · obtain ⟨ρ2, hf, P, s9, s10, rfl, hP1, hP2⟩ := lp
      rw [← hAl, List.take_length] at hP1
      obtain ⟨Y, hY1, hY2⟩ := pos_ex Z 0 P (by
        have : (P.map (·.1)).Pairwise (· < ·) := by rw [hP1]; exact h1
        exact List.pairwise_map.mp this) (fun p hp => by
        have := h2 p.1 (by rw [← hP1]; exact List.mem_map_of_mem hp)
        omega)
      have hlay : layP P (List.replicate Z none) = Y := by
        have := lay_all Y [] []
        rw [List.nil_append, List.nil_append, List.append_nil, List.append_nil, hY1] at this
        have e : posT ([] : List Thing).length Y = P := hY2
        rw [e] at this
        exact this
      have hkeys : keysOf Y = (List.range many).map (fun j : Nat => 3 * (j : Int) * mu - c % tenP 57) := by
        rw [keysOf_things, ← posT_things Y 0, hY2, List.map_map]
        exact hP2
      refine ⟨Y, ?_, ?_, hY1, ?_⟩
      · rw [hlay] at hf
        have hrm := gRange1_int (many : Int) ⟨by omega, by omega⟩
        rw [Int.toNat_natCast] at hrm
        have c2 := rep_comp (fi := pCallL gRange1 (pCons (pVar 4) pNil)) (W := Z) (by omega) (ρ := [some (.tuple [.int t, .int (w : Int), .int (st : Int)]), some (.int (hh : Int)), some (.int c), some (.int more), some (.int (Z : Int)), none, none, none, none]) (by
          clear hf hw hend htwo hTw hT2 hSz hmany h2 hz hkeys hlay hP1 hP2 hY2
          walk_at "pu")
        have hfit : (List.range Z).length < 16777216 := by simp; omega
        have hp : pListRange (pCons (pVar 4) pNil) [some (.tuple [.int t, .int (w : Int), .int (st : Int)]), some (.int (hh : Int)), some (.int c), some (.int more), some (.int (Z : Int)), none, none, none, none] = some ((List.range Z).map natD) := by
          unfold pListRange
          clear hf hw hend htwo hTw hT2 hSz hmany h2 hz hkeys hlay hP1 hP2 hY2 c2
          walk_at "pu"
        refine runL_of rfl ?_
        clear hend hkeys hlay hP1 hP2 hY2 h2 hz hSz hT2 ev hv
        generalize (List.range Z).map natD = RZ at *
        generalize (List.replicate Z (none : Thing)).map encD = RN at *
        generalize Y.map encD = YD at *
        have hADl : (A.map natD).length = many := by rw [List.length_map]; exact hAl
        generalize A.map natD = AD at *
        unfold b__law_filled
        generalize pComp (pCallL gRange1 (pCons (pVar 4) pNil)) (bd1 0) pTrue (pTup pNil) 1 [] = CC at *
        refine sq_nx (ρ' := [.sh (.tuple [.int t, .int (w : Int), .int (st : Int)]), .sh (.int (hh : Int)), .sh (.int c), .sh (.int more), .sh (.int (Z : Int)), .no, .no, .no, .no]) (by clear hf hw c2 hp hmany; walk_at "pu") ?_
        refine sq_nx (ρ' := [.sh (.tuple [.int t, .int (w : Int), .int (st : Int)]), .sh (.int (hh : Int)), .sh (.int c), .sh (.int more), .sh (.int (Z : Int)), .ow RZ, .no, .no, .no]) (by clear hf hw c2 hmany hTw; walk_at "pu") ?_
        refine sq_nx hw ?_
        refine sq_nx (ρ' := [.sh (.tuple [.int t, .int (w : Int), .int (st : Int)]), .sh (.int (hh : Int)), .sh (.int c), .sh (.int more), .sh (.int (Z : Int)), .ow AD, .ow RN, .no, .no]) (by clear hf hw hp hmany hTw; walk_at "pu") ?_
        refine sq_nx ((for_eqF (items := rangeD 0 many) (by clear hf hw c2 hp hmany hTw; walk_at "pu")).trans hf) (by clear hf hw c2 hp hmany hTw; walk_at "pu")
      · unfold Rises
        rw [hkeys, List.pairwise_map]
        refine List.pairwise_lt_range.imp fun {a b} hab => ?_
        have : 3 * (a : Int) * mu < 3 * (b : Int) * mu := Int.mul_lt_mul_of_pos_right (by omega) mu0
        omega
      · rw [hkeys, List.length_map, List.length_range, hmany]
    · rintro i ρ hi ⟨P, s9, s10, rfl, hP1, hP2⟩
      rw [Int.zero_add]
      obtain ⟨z, hz', z0⟩ := mixed_ex c (i : Int)
      have mi := m_pos (i : Int) (b := 2) (by decide)
      obtain ⟨u, hu, eu⟩ := at_mem ([.int (tenP 9), .int 3] : List D) (i := (i : Int) % 2) mi.1 mi.2
      obtain ⟨dv, rfl, dv0⟩ : ∃ dv : Int, u = .int dv ∧ 0 < dv ∧ dv < 1073741824 := by
        simp only [List.mem_cons, List.mem_nil_iff, or_false] at hu
        rcases hu with rfl | rfl
        · exact ⟨_, rfl, tenP_pos _, by unfold tenP; decide⟩
        · exact ⟨3, rfl, by decide, by decide⟩
      have hAi : i < A.length := by omega
      have hatA : atI (A.map natD) (i : Int) = some (.int ((A[i] : Nat) : Int)) := by
        rw [atI_ofNat]
        simp [hAi, natD]
      have hlt : A[i] < (layP P (List.replicate Z none)).length := by
        rw [lay_len, List.length_replicate]
        exact h2 _ (List.getElem_mem hAi)
      have hix := ixN_nat hlt
      refine ⟨_, [.sh (.tuple [.int t, .int (w : Int), .int (st : Int)]), .sh (.int (hh : Int)), .sh (.int c), .sh (.int more), .sh (.int (Z : Int)), .ow (A.map natD), .ow ((layP (P ++ [(A[i], (3 * (i : Int) * mu - c % tenP 57, z % dv - 1))]) (List.replicate Z none)).map encD), .sh (.int (i : Int)), .sh (.int (z % dv - 1))], rfl, ?_, _, _, _, rfl, ?_, ?_⟩
      · have hsn : (layP (P ++ [(A[i], (3 * (i : Int) * mu - c % tenP 57, z % dv - 1))]) (List.replicate Z none)).map encD = ((layP P (List.replicate Z none)).map encD).set A[i] (.tuple [.int (3 * (i : Int) * mu - c % tenP 57), .int (z % dv - 1)]) := by
          unfold layP
          rw [List.foldl_append]
          show (List.set (List.foldl (fun (s : List Thing) (p : Nat × Pr) => s.set p.1 (some p.2)) (List.replicate Z none) P) A[i] (some (3 * (i : Int) * mu - c % tenP 57, z % dv - 1))).map encD = _
          rw [List.map_set]
          rfl
        rw [hsn]
        have b1 : -18446744073709551616 < (i : Int) ∧ (i : Int) < 18446744073709551616 := by omega
        have b3 : -18446744073709551616 < 3 * (i : Int) ∧ 3 * (i : Int) < 18446744073709551616 := by omega
        generalize (layP P (List.replicate Z none)) = V at *
        generalize A[i] = q at *
        clear hsn hP1 hP2 hw hend h1 h2 h3 h4' hAl htwo hTw hT2 hSz hmany hg hv hu hz hlt hAi hi hmz hTs hhs mi mc
        unfold l__law_filled_2
        refine sq_nx (ρ' := [.sh (.tuple [.int t, .int (w : Int), .int (st : Int)]), .sh (.int (hh : Int)), .sh (.int c), .sh (.int more), .sh (.int (Z : Int)), .ow (A.map natD), .ow (V.map encD), .sh (.int (i : Int)), .sh (.int (z % dv - 1))]) (by clear ev hatA hix; walk_at "pu") ?_
        clear eu hz'
        walk_at "pu"
      · rw [List.map_append, hP1, List.take_succ, List.getElem?_eq_getElem hAi]
        rfl
      · rw [List.map_append, hP2, List.range_succ, List.map_append]
        rfl
  · rintro k ρ ⟨A, rfl, h1, h2, h3, h4'⟩
    refine ⟨decide (max 0 more < (A.length : Int)), by clear h1 h2 h3 h4' htwo hTw hT2 hSz hmany hg hz; walk_at "pu", fun hb => ?_⟩
    have hb' := of_decide_eq_true hb
    obtain ⟨z, hz', _⟩ := mixed_ex c (A.length : Int)
    have mp := m_pos (z / 7) (b := (A.length : Int)) (by omega)
    have ml : 0 < (A.length : Int) := by omega
    have hfit : A.length < 16777216 := by omega
    refine ⟨by omega, [.sh (.tuple [.int t, .int (w : Int), .int (st : Int)]), .sh (.int (hh : Int)), .sh (.int c), .sh (.int more), .sh (.int (Z : Int)), .ow ((A.map natD).eraseIdx (z / 7 % (A.length : Int)).toNat), .no, .no, .no], ?_, A.eraseIdx (z / 7 % (A.length : Int)).toNat, ?_, ?_, ?_, ?_, ?_⟩
    · have hm0 := mp.1
      have hm1 := mp.2
      clear h1 h2 h3 h4' hb hb' hmz mp hg htwo hTw hT2 hSz hmany hz hTs hhs
      unfold l__law_filled_1 pPopI
      walk_at "pu"
    · rw [erase_map]
    · exact h1.sublist (List.eraseIdx_sublist _ _)
    · exact fun a ha => h2 a ((List.eraseIdx_sublist _ _).subset ha)
    · rw [List.length_eraseIdx_of_lt (by omega)]; omega
    · rw [List.length_eraseIdx_of_lt (by omega)]; omega
end LL
set_option maxHeartbeats 4000000
namespace LL
open PySem L2
structure Twice (ts S : List Thing) : Prop where
  len : S.length = ts.length
  way : S = ts ∨ ∃ (p q : Nat) (x : Int × Int), ts[p]? = some (some x) ∧ ts[q]? = some none ∧ (∀ i, (p < i ∧ i < q ∨ q < i ∧ i < p) → ts[i]? = some none) ∧ S = ts.set q (some x)
theorem doubled_ex {ts : List Thing} (hl : ts.length ≤ 320) (c : Int) : ∃ S : List Thing, m__law_doubled [encL ts, .int c] = some (S.map encD) ∧ Twice ts S := by
  have hg : gRange1 [.int ts.length] = some (rangeD 0 ts.length) := by
    rw [gRange1_int _ ⟨by omega, by omega⟩]
    rfl
  obtain ⟨P, hP⟩ : ∃ P, P = (List.range ts.length).filter (fun i => full' (ts.getD i none)) := ⟨_, rfl⟩
  have hc : pComp (pCallL gRange1 (pCons (pCall gLen (pCons (pVar 0) pNil)) pNil)) (bd1 0) (pTest (pOp dNe (pOp dIx (pVar 1) (pVar 0)) (pTup pNil))) (pVar 0) 1 [0] [some (.list (ts.map encD)), some (.int c), none, none, none, none, none] = some ((P.map fun i : Nat => 0 + (i : Int)).map PyData.int) := by
    rw [comp_eq (items := rangeD 0 ts.length) (by walk_at "pu") (by rw [rangeD_len]; omega)]
    unfold rangeD
    rw [compP_map (fun i : Nat => .int (0 + (i : Int))) (fun i => full' (ts.getD i none)) (fun i : Nat => .int (0 + (i : Int))), hP, List.map_map]
    · rfl
    · intro i hi
      have hi' : i < ts.length := List.mem_range.mp hi
      refine ⟨_, rfl, ?_, fun _ => rfl⟩
      have e : atI (ts.map encD) (0 + (i : Int)) = some (encD (ts.getD i none)) := by
        rw [Int.zero_add, atI_ofNat]
        simp [hi', List.getD]
      show pTest _ [some (.int (0 + (i : Int))), some (.list (ts.map encD))] = some (!decide (ts.getD i none = none))
      walk_at "pu"
  show ∃ S : List Thing, m__law_doubled [.list (ts.map encD), .int c] = some (S.map encD) ∧ Twice ts S
  by_cases hPn : P = []
  · refine ⟨ts, runL_of rfl ?_, rfl, .inl rfl⟩
    have hPn' : (P.map fun i : Nat => 0 + (i : Int)) = [] := by rw [hPn]; rfl
    rw [hPn'] at hc
    clear hP hPn hPn' hg
    unfold b__law_doubled
    walk_at "pu"
    rfl
  have hPl : 0 < (P.length : Int) := by
    cases P with
    | nil => exact absurd rfl hPn
    | cons a r => simp
  have hPl2 : P.length ≤ 320 := by
    rw [hP]
    have := List.length_filter_le (fun i => full' (ts.getD i none)) (List.range ts.length)
    rw [List.length_range] at this
    omega
  have mi := m_pos c hPl
  obtain ⟨v, hv, ev⟩ := at_mem ((P.map fun i : Nat => 0 + (i : Int)).map PyData.int) (i := c % (P.length : Int)) mi.1 (by simp only [List.length_map]; exact mi.2)
  obtain ⟨h, hh, rfl⟩ := List.mem_map.mp hv
  obtain ⟨p, hpP, rfl⟩ := List.mem_map.mp hh
  rw [hP] at hpP
  obtain ⟨hpr, hpf⟩ := List.mem_filter.mp hpP
  have hpn : p < ts.length := List.mem_range.mp hpr
  obtain ⟨x, hx⟩ : ∃ x, ts[p]? = some (some x) := by
    have e : ts.getD p none = ts[p] := by simp [List.getD, hpn]
    rw [e] at hpf
    cases e2 : ts[p] with
    | none => rw [e2] at hpf; cases hpf
    | some x => exact ⟨x, by rw [List.getElem?_eq_getElem hpn, e2]⟩
  have hPne : ¬ (P.map fun i : Nat => 0 + (i : Int)) = [] := by simpa using hPn
  generalize hQ : (P.map fun i : Nat => 0 + (i : Int)) = Q at *
  have hQl : Q.length = P.length := by rw [← hQ]; simp
  clear hv hh hpP hpr hpf hPn hQ
  have s2 := m_pos (c / 1000) (b := 2) (by decide)
  obtain ⟨dv, hdv⟩ : ∃ dv, dv = c / 1000 % 2 := ⟨_, rfl⟩
  obtain ⟨s, hs⟩ : ∃ s, s = 1 - 2 * dv := ⟨_, rfl⟩
  have hs1 : s = 1 ∨ s = -1 := by omega
  have wh := while_idx (c := pAndT (pTest (pChain dLe dLt (pCon (.int 0)) (pVar 6) (pCall gLen (pCons (pVar 0) pNil)))) (pTest (pOp dEq (pOp dIx (pVar 0) (pVar 6)) (pTup pNil)))) (F := l__law_doubled_1) ts.length
    (fun k ρ => ρ = [.sh (.list (ts.map encD)), .sh (.int c), .ow (ts.map encD), .sh (.list (Q.map PyData.int)), .sh (.int (0 + (p : Int))), .ow ((List.range (k + 1)).map fun i : Nat => .int (0 + (p : Int) + (i : Int) * s)), .sh (.int (0 + (p : Int) + ((k + 1 : Nat) : Int) * s))] ∧
      ∀ i : Nat, 1 ≤ i → i ≤ k → ∃ q : Nat, (q : Int) = 0 + (p : Int) + (i : Int) * s ∧ ts[q]? = some none) ?_ 1000000 0
    [.sh (.list (ts.map encD)), .sh (.int c), .ow (ts.map encD), .sh (.list (Q.map PyData.int)), .sh (.int (0 + (p : Int))), .ow [.int (0 + (p : Int))], .sh (.int (0 + (p : Int) + s))] ⟨by simp, fun i h1 h2 => by omega⟩ (Nat.zero_le _) (by omega)
  case refine_1 =>
    rintro k ρ ⟨rfl, hall⟩
    generalize hpos : 0 + (p : Int) + ((k + 1 : Nat) : Int) * s = pos
    by_cases h1 : 0 ≤ pos
    · by_cases h2 : pos < (ts.length : Int)
      · obtain ⟨q, rfl⟩ : ∃ q : Nat, pos = (q : Int) := ⟨pos.toNat, by omega⟩
        have hq : q < ts.length := by omega
        have hat : atI (ts.map encD) (q : Int) = some (encD ts[q]) := by rw [atI_ofNat]; simp [hq]
        refine ⟨decide (ts[q] = none), ?_, fun hb => ?_⟩
        · clear hc ev hx mi hP hg hall hpos hs hs1 s2 hdv
          walk_at "pu"
        · have hb' : ts[q] = none := of_decide_eq_true hb
          have hk : k < ts.length := by
            rcases hs1 with rfl | rfl <;> omega
          have hk2 : k + 1 < 16777216 := by omega
          refine ⟨hk, [.sh (.list (ts.map encD)), .sh (.int c), .ow (ts.map encD), .sh (.list (Q.map PyData.int)), .sh (.int (0 + (p : Int))), .ow ((List.range (k + 1)).map (fun i : Nat => .int (0 + (p : Int) + (i : Int) * s)) ++ [.int (q : Int)]), .sh (.int ((q : Int) + 1 - 2 * (c / 1000 % 2)))], ?_, ?_, ?_⟩
          · clear hc ev hx mi hP hg hall hpos hs hs1 s2 hdv
            unfold l__law_doubled_1
            have e1 : (List.range (k + 1)).length = k + 1 := List.length_range
            walk_at "pu"
          · have e2 : (q : Int) + 1 - 2 * (c / 1000 % 2) = 0 + (p : Int) + ((k + 1 + 1 : Nat) : Int) * s := by
              rw [← hpos, ← hdv]
              rcases hs1 with h | h
              · rw [h]; omega
              · rw [h]; omega
            rw [e2, ← hpos, List.range_succ (n := k + 1), List.map_append]
            rfl
          · intro i h3 h4
            by_cases h5 : i = k + 1
            · subst h5
              exact ⟨q, hpos.symm, by rw [List.getElem?_eq_getElem hq, hb']⟩
            · exact hall i h3 (by omega)
      · refine ⟨false, ?_, fun hb => by cases hb⟩
        clear hc ev hx mi hP hg hall hpos hs hs1 s2 hdv
        walk_at "pu"
    · refine ⟨false, ?_, fun hb => by cases hb⟩
      clear hc ev hx mi hP hg hall hpos hs hs1 s2 hdv
      walk_at "pu"
  obtain ⟨k, ρ', hw, ⟨rfl, hall⟩, _, hkB⟩ := wh
  have mj := m_pos (c / 2000) (b := ((k + 1 : Nat) : Int)) (by omega)
  obtain ⟨j, hj⟩ : ∃ j : Nat, c / 2000 % ((k + 1 : Nat) : Int) = (j : Int) := ⟨(c / 2000 % ((k + 1 : Nat) : Int)).toNat, by omega⟩
  have hjk : j < k + 1 := by omega
  have hfr : atI ((List.range (k + 1)).map fun i : Nat => PyData.int (0 + (p : Int) + (i : Int) * s)) (c / 2000 % ((k + 1 : Nat) : Int)) = some (.int (0 + (p : Int) + (j : Int) * s)) := by
    rw [hj, atI_ofNat]
    simp [hjk]
  obtain ⟨q, hq, hqn, hcase⟩ : ∃ q : Nat, 0 + (p : Int) + (j : Int) * s = (q : Int) ∧ q < ts.length ∧ (q = p ∨ (ts[q]? = some none ∧ ∀ i, (p < i ∧ i < q ∨ q < i ∧ i < p) → ts[i]? = some none)) := by
    by_cases hj0 : j = 0
    · subst hj0
      exact ⟨p, by simp, hpn, .inl rfl⟩
    · obtain ⟨q, hq, hqt⟩ := hall j (by omega) (by omega)
      refine ⟨q, hq.symm, (List.getElem?_eq_some_iff.mp hqt).1, .inr ⟨hqt, fun i hi => ?_⟩⟩
      obtain ⟨i', hi1, hi2, hi3⟩ : ∃ i' : Nat, 1 ≤ i' ∧ i' ≤ j ∧ (i : Int) = 0 + (p : Int) + (i' : Int) * s := by
        rcases hs1 with rfl | rfl
        · exact ⟨i - p, by omega, by omega, by omega⟩
        · exact ⟨p - i, by omega, by omega, by omega⟩
      obtain ⟨q', hq', ht'⟩ := hall i' hi1 (by omega)
      have : q' = i := by omega
      rw [← this]
      exact ht'
  rw [hq] at hfr
  have hat : atI (ts.map encD) (0 + (p : Int)) = some (encD (some x)) := by
    rw [Int.zero_add, atI_ofNat, List.getElem?_map, hx]
    rfl
  have hix : ixN ts.length (q : Int) = some q := ixN_nat hqn
  have hset : (ts.map encD).set q (encD (some x)) = (ts.set q (some x)).map encD := by rw [List.map_set]
  have hlen : Q.length = P.length := hQl
  have hk1 : (List.range (k + 1)).length = k + 1 := List.length_range
  clear hP mi hall hkB
  refine ⟨ts.set q (some x), runL_of rfl ?_, by simp, ?_⟩
  · unfold b__law_doubled
    refine sq_nx (ρ' := [.sh (.list (ts.map encD)), .sh (.int c), .ow (ts.map encD), .no, .no, .no, .no]) (by clear hw hfr hset; walk_at "pu") ?_
    refine sq_nx (ρ' := [.sh (.list (ts.map encD)), .sh (.int c), .ow (ts.map encD), .sh (.list (Q.map PyData.int)), .no, .no, .no]) (by clear hw hfr hset; walk_at "pu") ?_
    refine sq_nx (ρ' := [.sh (.list (ts.map encD)), .sh (.int c), .ow (ts.map encD), .sh (.list (Q.map PyData.int)), .no, .no, .no]) (by clear hw hfr hset; walk_at "pu") ?_
    refine sq_nx (ρ' := [.sh (.list (ts.map encD)), .sh (.int c), .ow (ts.map encD), .sh (.list (Q.map PyData.int)), .sh (.int (0 + (p : Int))), .no, .no]) (by clear hw hfr hset; walk_at "pu") ?_
    refine sq_nx (ρ' := [.sh (.list (ts.map encD)), .sh (.int c), .ow (ts.map encD), .sh (.list (Q.map PyData.int)), .sh (.int (0 + (p : Int))), .ow [.int (0 + (p : Int))], .no]) (by clear hw hfr hset; walk_at "pu") ?_
    refine sq_nx (ρ' := [.sh (.list (ts.map encD)), .sh (.int c), .ow (ts.map encD), .sh (.list (Q.map PyData.int)), .sh (.int (0 + (p : Int))), .ow [.int (0 + (p : Int))], .sh (.int (0 + (p : Int) + s))]) (by
      have e2 : 0 + (p : Int) + s = 0 + (p : Int) + 1 - 2 * (c / 1000 % 2) := by omega
      rw [e2]
      clear hw hfr hset hs hdv s2 e2
      walk_at "pu") ?_
    refine sq_nx hw ?_
    refine sq_nx (ρ' := [.sh (.list (ts.map encD)), .sh (.int c), .ow ((ts.set q (some x)).map encD), .sh (.list (Q.map PyData.int)), .sh (.int (0 + (p : Int))), .ow ((List.range (k + 1)).map fun i : Nat => .int (0 + (p : Int) + (i : Int) * s)), .sh (.int (0 + (p : Int) + ((k + 1 : Nat) : Int) * s))]) (by
      have kp : (0 : Int) < ((k + 1 : Nat) : Int) := by omega
      rw [← hset]
      clear hs hj mj hw hdv hset
      walk_at "pu") ?_
    clear hw hfr hset
    walk_at "pu"
  · rcases hcase with rfl | ⟨h1, h2⟩
    · left
      have e : ts[q]'hqn = some x := by
        have := hx
        rw [List.getElem?_eq_getElem hqn] at this
        exact Option.some.inj this
      have e2 := List.set_getElem_self (as := ts) (i := q) hqn
      rw [e] at e2
      exact e2
    · right
      exact ⟨p, q, x, hx, h1, h2, rfl⟩
end LL
set_option maxHeartbeats 4000000
namespace LL
open PySem L2
def lastT (last : Thing) : List Thing → Thing
  | [] => last
  | none :: r => lastT last r
  | some x :: r => lastT (some x) r
theorem sec_pass : ∀ (A : List Thing) (last : Thing) (i : Nat) (R : List Thing), (keysOf (last :: A)).Pairwise (· < ·) → secondF last i (A ++ R) = secondF (lastT last A) (i + A.length) R
  | [], last, i, R, _ => rfl
  | none :: r, last, i, R, h => by
    have h' : (keysOf (last :: r)).Pairwise (· < ·) := by
      cases last with
      | none => exact h
      | some y => exact h
    have := sec_pass r last (i + 1) R h'
    rw [List.cons_append, List.length_cons]
    show secondF last (i + 1) (r ++ R) = secondF (lastT last r) _ R
    rw [this]
    congr 1
    omega
  | some x :: r, last, i, R, h => by
    have hx : ¬ some x = last := by
      intro e
      subst e
      have h2 : (x.1 :: x.1 :: keysOf r).Pairwise (· < ·) := h
      have := (List.pairwise_cons.mp h2).1 x.1 List.mem_cons_self
      omega
    have h' : (keysOf (some x :: r)).Pairwise (· < ·) := by
      cases last with
      | none => exact h
      | some y => exact (List.pairwise_cons.mp (show (y.1 :: keysOf (some x :: r)).Pairwise (· < ·) from h)).2
    have := sec_pass r (some x) (i + 1) R h'
    rw [List.cons_append, List.length_cons]
    show (if some x = last then some i else secondF (some x) (i + 1) (r ++ R)) = secondF (lastT (some x) r) _ R
    rw [if_neg hx, this]
    congr 1
    omega
theorem sec_nones (last : Thing) (R : List Thing) : ∀ (k i : Nat), secondF last i (List.replicate k none ++ R) = secondF last (i + k) R
  | 0, i => rfl
  | k + 1, i => by
    rw [List.replicate_succ, List.cons_append]
    show secondF last (i + 1) _ = _
    rw [sec_nones last R k (i + 1)]
    congr 1
    omega
theorem sec_straight {ts : List Thing} (h : Rises ts) : secondF none 0 ts = none := by
  have := sec_pass ts none 0 [] h
  rw [List.append_nil] at this
  rw [this]
  rfl
theorem mend_straight {ts : List Thing} (h : Rises ts) : mendF ts = ts := by
  unfold mendF
  rw [sec_straight h]
theorem lastT_snoc (A : List Thing) (x : Int × Int) : ∀ last, lastT last (A ++ [some x]) = some x := by
  induction A with
  | nil => intro last; rfl
  | cons t r ih =>
    intro last
    cases t with
    | none => exact ih last
    | some y => exact ih (some y)
theorem split_at {S : List Thing} {p q : Nat} {a b : Thing} (hp : S[p]? = some a) (hq : S[q]? = some b) (hpq : p < q) (mid : ∀ i, p < i → i < q → S[i]? = some none) :
    S = S.take p ++ a :: (List.replicate (q - p - 1) none ++ b :: S.drop (q + 1)) := by
  have lq : q < S.length := (List.getElem?_eq_some_iff.mp hq).1
  have lp : p < S.length := by omega
  have e1 : S.drop p = a :: S.drop (p + 1) := by
    rw [List.drop_eq_getElem_cons lp]
    congr 1
    exact Option.some.inj ((List.getElem?_eq_getElem lp).symm.trans hp)
  have e2 : S.drop q = b :: S.drop (q + 1) := by
    rw [List.drop_eq_getElem_cons lq]
    congr 1
    exact Option.some.inj ((List.getElem?_eq_getElem lq).symm.trans hq)
  have e3 : (S.drop (p + 1)).take (q - p - 1) = List.replicate (q - p - 1) none := by
    apply List.ext_getElem?
    intro i
    rw [List.getElem?_take, List.getElem?_replicate]
    by_cases hi : i < q - p - 1
    · rw [if_pos hi, if_pos hi, List.getElem?_drop]
      exact mid (p + 1 + i) (by omega) (by omega)
    · rw [if_neg hi, if_neg hi]
  have e4 : S.drop (p + 1) = List.replicate (q - p - 1) none ++ S.drop q := by
    rw [← e3]
    have := (List.take_append_drop (q - p - 1) (S.drop (p + 1))).symm
    rw [List.drop_drop] at this
    have e5 : p + 1 + (q - p - 1) = q := by omega
    rw [e5] at this
    exact this
  rw [← e2, ← e4, ← e1, List.take_append_drop]
theorem twice_core {S : List Thing} {p q : Nat} {x : Int × Int} (hp : S[p]? = some (some x)) (hq : S[q]? = some (some x)) (hpq : p < q) (mid : ∀ i, p < i → i < q → S[i]? = some none) (hR : Rises (S.set q none)) :
    mendF S = S.set q none ∧ mendF (S.set q none) = S.set q none := by
  refine ⟨?_, mend_straight hR⟩
  have lq : q < S.length := (List.getElem?_eq_some_iff.mp hq).1
  have hS := split_at hp hq hpq mid
  have hT := split_at (S := S.set q none) (p := p) (q := q) (a := some x) (b := none) (by rw [List.getElem?_set_ne (by omega)]; exact hp) (by rw [List.getElem?_set_self (by omega)]) hpq (fun i h1 h2 => by rw [List.getElem?_set_ne (by omega)]; exact mid i h1 h2)
  rw [List.take_set_of_le (by omega), List.drop_set_of_lt (by omega)] at hT
  have hR2 := hR
  rw [hT] at hR2
  have hA : (keysOf (none :: (S.take p ++ [some x]))).Pairwise (· < ·) := by
    unfold Rises at hR2
    rw [keysOf_app, keysOf_some] at hR2
    show (keysOf (S.take p ++ [some x])).Pairwise _
    rw [keysOf_app, keysOf_some]
    have := List.pairwise_append.mp hR2
    rw [List.pairwise_append]
    exact ⟨this.1, by simp [keysOf], fun a ha b hb => by
      have hb' : b = x.1 := by simpa [keysOf] using hb
      rw [hb']
      exact this.2.2 a ha x.1 List.mem_cons_self⟩
  have hs : secondF none 0 S = some q := by
    rw [hS]
    have e : S.take p ++ some x :: (List.replicate (q - p - 1) none ++ some x :: S.drop (q + 1)) = (S.take p ++ [some x]) ++ (List.replicate (q - p - 1) none ++ some x :: S.drop (q + 1)) := by simp
    rw [e, sec_pass _ none 0 _ hA, lastT_snoc, sec_nones]
    show (if some x = some x then some _ else _) = _
    rw [if_pos rfl]
    congr 1
    rw [List.length_append, List.length_take]
    simp
    omega
  unfold mendF
  rw [hs]
end LL
set_option maxHeartbeats 4000000
namespace LL
open PySem L2
end LL
namespace L2
open PySem PySem.Spec PyProof.Rows
section
variable {κ : Type} [DecidableEq κ]
end
section
variable {P : Program} {w : World} {H : Hp} {h : Heap} {a : Addr}
end
section
variable {X : Cx} {pins : List (Addr × Obj)} {σ : St} {H : Hp} {s : Shared} {a : Addr} {y v : V} {u r : Value} {o : Option V} {A : Around} {E : Value → Shared → Prop}
theorem Inv.big (I : Inv X pins σ H s) : sysModules < s.heap.objs.size := by
  have h : mainGlobals < s.heap.objs.size := (I.mod.glob.keeps I.bk).lt
  exact Nat.lt_trans (by decide) h
end
section
variable {X : Cx} {pins : List (Addr × Obj)} {σ : St} {H : Hp} {s : Shared} {a : Addr} {kvs : List (Key × V)} {k : Key} {u : Value} {A : Around} {E : Value → Shared → Prop}
end
section
variable {X : Cx} {o i e value : Expr} {pos pos' tpos : Pos} {td ty tv : TE}
end
theorem dk_empty {P : Program} {w : World} {H : Hp} (h : Heap) (hb : sysModules < h.objs.size) : ObjOk P w H (h.push { cls := .type "dict", data := .dict #[] }) h.objs.size (.dK []) :=
  ⟨Nat.zero_le _, beq_eq_false_iff_ne.mpr (Ne.symm (Nat.ne_of_lt hb)), [], .nil, Heap.DictOf.new h⟩
def tDNewK : TE := fun _ H Q => ∀ p, H p = none → Q (.ref p) (upd H p (.dK []))
section
variable {X : Cx} {pos : Pos}
theorem pe_dnewK : PE X (.Dict [] [] pos) tDNewK := fun pins s σ H Q I h =>
  wpAny_Dict_empty ⟨.ref s.heap.objs.size, _, I.laid (a := s.heap.objs.size) (o := .dK []) (t' := s.toks) (fun _ _ q => Heap.get?_push_of_some _ q) (Nat.le_refl _) (dk_empty s.heap I.big), rfl, h _ (I.hok.fresh (Nat.le_refl _))⟩
end
structure M1 (X : Cx) (o : Expr) (m : Str) (apos : Pos) (e : Expr) (cpos : Pos) : Prop where
  base : attributeBase o m X.env (eval o X.env) = eval o X.env
  few : ((backTo cpos (starEach [e] X.env)).all (fun x => !x.1) && (backToKw cpos (keywordEach [] X.env)).all (fun x => x.1.isSome)
    && decide (([e] : List Expr).length + ([] : List Keyword).length + (if ([] : List Keyword).isEmpty then 0 else 1) < 30)) = true
  line : (apos.endLine == cpos.line) = true
  trees : backTo cpos (starEach [e] X.env) = [(false, eval e X.env)]
structure M2 (X : Cx) (o : Expr) (m : Str) (apos : Pos) (e f : Expr) (cpos : Pos) : Prop where
  base : attributeBase o m X.env (eval o X.env) = eval o X.env
  few : ((backTo cpos (starEach [e, f] X.env)).all (fun x => !x.1) && (backToKw cpos (keywordEach [] X.env)).all (fun x => x.1.isSome)
    && decide (([e, f] : List Expr).length + ([] : List Keyword).length + (if ([] : List Keyword).isEmpty then 0 else 1) < 30)) = true
  line : (apos.endLine == cpos.line) = true
  trees : backTo cpos (starEach [e, f] X.env) = [(false, eval e X.env), (false, eval f X.env)]
section
variable {X : Cx} {pins : List (Addr × Obj)} {σ : St} {H : Hp} {s : Shared} {a : Addr} {y d : V} {u r : Value} {o : Option V} {A : Around} {E : Value → Shared → Prop}
end
section
variable {X : Cx} {o e f : Expr} {apos cpos : Pos} {td ty tx : TE}
end
section
variable {X : Cx} {pins : List (Addr × Obj)} {σ : St} {H : Hp} {s : Shared} {a : Addr} {kvs : List (Key × V)} {A : Around} {E : Value → Shared → Prop}
end
section
variable {X : Cx} {pins : List (Addr × Obj)} {σ : St} {H : Hp} {s : Shared} {a : Addr} {y : V} {u : Value} {A : Around} {E : Value → Shared → Prop}
end
end L2
set_option maxHeartbeats 4000000
namespace L2
open PySem PySem.Spec PyProof.Rows
section
variable {X : Cx} {K : PySem.W.Frag}
theorem ok_out {O : List Addr} {H : Hp} {p : Addr} (ok : OkO O H) (hp : H p = none) : p ∉ O := fun h => by
  obtain ⟨o, e⟩ := ok p h
  rw [hp] at e
  cases e
theorem je_dict0 {pos : Pos} : JE X K (.Dict [] [] pos) tDNewK (pCon (.dict [])) := ⟨pe_dnewK, by
  intro O σ H ρ d Q ok er hf q
  cases hf
  intro p hp
  exact q _ _ (Same.new hp) (.dic (by rw [hid_out (ok_out ok hp)]; exact upd_same))⟩
end
end L2
set_option maxHeartbeats 4000000
namespace L2
open PySem PySem.Spec PyProof.Rows
section
variable {X : Cx} {K : PySem.W.Frag}
def gBool : List D → Option D
  | [.int i] => some (.bool (i != 0))
  | [.bool b] => some (.bool b)
  | _ => none
theorem jc_bool : CallJ X K (.type "bool") (fun xs H Q => (∃ i, xs = [.int i] ∧ Q (.bl (i != 0)) H) ∨ ∃ k, xs = [.bl k] ∧ Q (.bl k) H) gBool := ⟨call_bool1, by
  intro O H vs ds d Q ok r hg q
  unfold gBool at hg
  split at hg
  · rename_i i
    cases hg
    obtain ⟨v, rfl, r1⟩ := rep1 r
    cases r1
    exact .inl ⟨i, rfl, q _ H (Same.refl H) (.bl _)⟩
  · rename_i b
    cases hg
    obtain ⟨v, rfl, r1⟩ := rep1 r
    cases r1
    exact .inr ⟨b, rfl, q _ H (Same.refl H) (.bl _)⟩
  · cases hg⟩
def gTuple : List D → Option D
  | [.list ds] => some (.tuple ds)
  | [.tuple ds] => some (.tuple ds)
  | _ => none
theorem jc_tuple (hK : X.K = K) : CallJ X K (.type "tuple") (fun xs H Q => ∃ p ys, xs = [.ref p] ∧ ((SqL K H p ys ∧ ∀ l, H l = none → Q (.ref l) (upd H l (.tup ys))) ∨ (SqT K H p ys ∧ Q (.ref p) H))) gTuple := ⟨by subst hK; exact call_tuple_of, by
  intro O H vs ds d Q ok r hg q
  unfold gTuple at hg
  split at hg
  · rename_i es
    cases hg
    obtain ⟨v, rfl, r1⟩ := rep1 r
    cases r1 with
    | lst h r' =>
      refine ⟨_, _, rfl, .inl ⟨hid_le.seq h, fun l hl => ?_⟩⟩
      have nl : l ∉ O := fun z => by
        obtain ⟨o, e⟩ := ok l z
        rw [hl] at e
        cases e
      exact q _ _ (Same.new hl) (.tup (SqT.of (by rw [hid_out nl]; exact upd_same)) (r'.mono (hid_same (Same.new hl))))
  · rename_i es
    cases hg
    obtain ⟨v, rfl, r1⟩ := rep1 r
    cases r1 with
    | tup h r' => exact ⟨_, _, rfl, .inr ⟨hid_le.seqT h, q _ H (Same.refl H) (.tup h r')⟩⟩
  · cases hg⟩
def dIsB (neg : Bool) : D → D → Option D
  | .bool a, .bool b => some (.bool (if neg then a != b else a == b))
  | _, _ => none
theorem jo_isnB : OpJ X K (compareOp .IsNot) (fun x y H Q => ∃ a b, x = .bl a ∧ y = .bl b ∧ Q (.bl (a != b)) H) (dIsB true) := ⟨by
  intro pins s σ H x y v u Q I rx ry h
  obtain ⟨a, b, rfl, rfl, q⟩ := h
  cases rx
  cases ry
  refine isnot_bool (fin_bl I q ?_)
  cases a <;> cases b <;> rfl, by
  intro O H x y a b d Q ok ra rb hg q
  cases ra with
  | bl i =>
    cases rb with
    | bl j => cases hg; exact ⟨i, j, rfl, rfl, q _ H (Same.refl H) (.bl _)⟩
    | _ => cases hg
  | _ => cases hg⟩
end
end L2
set_option maxHeartbeats 4000000
namespace S22
open PySem L2 LL
def b_is_whole : PSt := (pRet (pAnd (pIsi "int" (pVar 0)) (pNot (pIsi "bool" (pVar 0)))))
def m_is_whole : List D → Option D := runF 1 1 b_is_whole
def b_is_pair : PSt := (pRet (pAnd (pIsi "tuple" (pVar 0)) (pAnd (pOp dEq (pCall gLen (pCons (pVar 0) pNil)) (pCon (.int 2))) (pAnd (pCall m_is_whole (pCons (pOp dIx (pVar 0) (pCon (.int 0))) pNil)) (pCall m_is_whole (pCons (pOp dIx (pVar 0) (pCon (.int 1))) pNil))))))
def m_is_pair : List D → Option D := runF 1 1 b_is_pair
def b_is_place : PSt := (pRet (pOr (pCall m_is_pair (pCons (pVar 0) pNil)) (pAnd (pIsi "tuple" (pVar 0)) (pOp dEq (pCall gLen (pCons (pVar 0) pNil)) (pCon (.int 0))))))
def m_is_place : List D → Option D := runF 1 1 b_is_place
def b_is_area : PSt := (pRet (pAnd (pIsi "list" (pVar 0)) (pAnd (pOp dEq (pCall gLen (pCons (pVar 0) pNil)) (pVar 1)) (pCall gAll (pCons (pOfL (pComp (pItL (pVar 0)) (bd1 0) pTrue (pCall m_is_place (pCons (pVar 0) pNil)) 1 [])) pNil)))))
def m_is_area : List D → Option D := runF 2 2 b_is_area
def b_is_sign : PSt := (pRet (pAnd (pCall m_is_pair (pCons (pVar 1) pNil)) (pAnd (pChain dLe dLe (pCon (.int 0)) (pOp dIx (pVar 1) (pCon (.int 0))) (pCon (.int 1))) (pChain dLe dLe (pCon (.int 0)) (pOp dIx (pVar 1) (pCon (.int 1))) (pOp dIx (pVar 0) (pCon (.int 0)))))))
def m_is_sign : List D → Option D := runF 2 2 b_is_sign
def b_has_form : PSt := (pSq (pIfS (pOrT (pNotT (pTest (pIsi "list" (pVar 1)))) (pTest (pOp dNe (pCall gLen (pCons (pVar 1) pNil)) (pCon (.int 3)))))
      (pRet (pCon (.bool false))) pNx)
    (pSq (pSet 2 (vS (pCall m_places_of (pCons (pVar 0) (pCons (pOp dIx (pVar 0) (pCon (.int 0))) pNil)))))
    (pSq (pIfS (pOrT (pNotT (pTest (pCall m_is_area (pCons (pOp dIx (pVar 1) (pCon (.int 0))) (pCons (pVar 2) pNil))))) (pNotT (pTest (pCall m_is_area (pCons (pOp dIx (pVar 1) (pCon (.int 1))) (pCons (pVar 2) pNil))))))
      (pRet (pCon (.bool false))) pNx)
    (pSq (pSet 3 (vS (pOp dIx (pVar 1) (pCon (.int 2)))))
    (pRet (pAnd (pIsi "list" (pVar 3)) (pAnd (pOp dEq (pCall gLen (pCons (pVar 3) pNil)) (pCon (.int 1))) (pCall m_is_sign (pCons (pVar 0) (pCons (pOp dIx (pVar 3) (pCon (.int 0))) pNil))))))))))
def m_has_form : List D → Option D := runF 2 4 b_has_form
def b_is_disk : PSt := (pSq (pIfS (pNotT (pTest (pCall m_has_form (pCons (pVar 0) (pCons (pVar 1) pNil)))))
      (pRet (pCon (.bool false))) pNx)
    (pSq (pSet 2 (vS (pOfL (pCallL m_shelf_on (pCons (pVar 0) (pCons (pVar 1) pNil))))))
    (pRet (pAnd (pCall m_is_sound (pCons (pVar 2) pNil)) (pOp dLe (pCall gLen (pCons (pOfL (pCallL m_rows_of (pCons (pVar 2) pNil))) pNil)) (pCall m_cap_of (pCons (pVar 0) (pCons (pCall m_height_on (pCons (pVar 1) pNil)) pNil))))))))
def m_is_disk : List D → Option D := runF 2 3 b_is_disk
def b__law_place : PSt := (pSq (pSet 2 (vN (pCompN (pItL (pVar 0)) (bd1 0) pTrue (pCallL gList (pCons (pVar 0) pNil)) 1 [])))
    (pSq (pSet 3 (vS (pOp dMod (pVar 1) (pCon (.int 2)))))
    (pSq (pSet 4 (vF (pOp dMod (pOp dDiv (pVar 1) (pCon (.int 2))) (pCall gLen (pCons (pOp dIx (pVar 2) (pVar 3)) pNil)))))
    (pSq (pSet 5 (vS (pOfL (pLst (pCons (pCon .none) (pCons (pCon (.int 0)) (pCons (pCon (.str "")) (pCons (pCon (.str "3,7")) (pCons (pOfL (pLst pNil)) (pCons (pOfL (pLst (pCons (pCon (.int 3)) (pCons (pCon (.int 7)) pNil)))) (pCons (pTup (pCons (pCon (.int 3)) pNil)) (pCons (pTup (pCons (pCon (.int 3)) (pCons (pCon (.int 7)) (pCons (pCon (.int 1)) pNil)))) (pCons (pTup (pCons (pCon (.bool true)) (pCons (pCon (.int 7)) pNil))) (pCons (pTup (pCons (pCon (.int 3)) (pCons (pCon (.bool true)) pNil))) (pCons (pTup (pCons (pCon (.int 3)) (pCons (pCon (.str "7")) pNil))) (pCons (pTup (pCons (pCon .none) (pCons (pCon (.int 7)) pNil))) (pCons (pTup (pCons (pTup pNil) (pCons (pTup pNil) pNil))) pNil)))))))))))))))))
    (pSq (pSetII 2 (pVar 3) (pVar 4) (vS (pOp dIx (pVar 5) (pOp dMod (pOp dDiv (pVar 1) (pCon (.int 2000))) (pCon (.int 13))))))
    (pRetON 2))))))
def m__law_place : List D → Option (List (List D)) := runN 2 6 b__law_place
def b__law_sign : PSt := (pSq (pSet 3 (vL (pComp (pItL (pVar 1)) (bd1 0) pTrue (pOfL (pCallL gList (pCons (pVar 0) pNil))) 1 [])))
    (pSq (pAsg (bs2 4 5) (vS (pOp dIx (pOp dIx (pVar 1) (pCon (.int 2))) (pCon (.int 0)))))
    (pSq (pSet 6 (vS (pOfL (pLst (pCons (pOfL (pLst pNil)) (pCons (pOfL (pLst (pCons (pTup (pCons (pVar 4) (pCons (pVar 5) pNil))) (pCons (pTup (pCons (pVar 4) (pCons (pVar 5) pNil))) pNil)))) (pCons (pOfL (pLst (pCons (pOfL (pLst (pCons (pVar 4) (pCons (pVar 5) pNil)))) pNil))) (pCons (pOfL (pLst (pCons (pTup (pCons (pVar 4) pNil)) pNil))) (pCons (pOfL (pLst (pCons (pTup (pCons (pCon (.int 2)) (pCons (pVar 5) pNil))) pNil))) (pCons (pOfL (pLst (pCons (pTup (pCons (pUn dNeg (pCon (.int 1))) (pCons (pVar 5) pNil))) pNil))) pNil))))))))))
    (pSq (pSet 6 (vS (pOfL (pCat (pVar 6) (pOfL (pLst (pCons (pOfL (pLst (pCons (pTup (pCons (pVar 4) (pCons (pOp dAdd (pOp dIx (pVar 0) (pCon (.int 0))) (pCon (.int 1))) pNil))) pNil))) (pCons (pOfL (pLst (pCons (pTup (pCons (pVar 4) (pCons (pUn dNeg (pCon (.int 1))) pNil))) pNil))) (pCons (pOfL (pLst (pCons (pTup (pCons (pCall gBool (pCons (pVar 4) pNil)) (pCons (pVar 5) pNil))) pNil))) (pCons (pOfL (pLst (pCons (pCon .none) pNil))) (pCons (pTup (pCons (pTup (pCons (pVar 4) (pCons (pVar 5) pNil))) pNil)) (pCons (pCon (.dict [])) pNil))))))))))))
    (pSq (pSetI 3 (pCon (.int 2)) (vS (pOp dIx (pOfL (pCat (pVar 6) (pOfL (pLst (pCons (pOfL (pLst (pCons (pTup (pCons (pVar 4) (pCons (pCon (.bool false)) pNil))) pNil))) pNil))))) (pOp dMod (pVar 2) (pCon (.int 13))))))
    (pRetO 3))))))
def m__law_sign : List D → Option (List D) := runL 3 7 b__law_sign
def b__law_shape : PSt := (pSq (pSet 2 (vL (pComp (pItL (pVar 0)) (bd1 0) pTrue (pOfL (pCallL gList (pCons (pVar 0) pNil))) 1 [])))
    (pSq (pSet 3 (vS (pOp dMod (pOp dDiv (pVar 1) (pCon (.int 9))) (pCon (.int 2)))))
    (pSq (pIfS (pTest (pOp dLt (pOp dMod (pVar 1) (pCon (.int 9))) (pCon (.int 5))))
      (pRet (pOp dIx (pOfL (pLst (pCons (pCon .none) (pCons (pCon (.int 7)) (pCons (pCall gTuple (pCons (pVar 2) pNil)) (pCons (pOfL (pSl (pVar 2) pNoPart (pPart (pCon (.int 2))))) (pCons (pOfL (pCat (pVar 2) (pOfL (pLst (pCons (pOfL (pLst pNil)) pNil))))) pNil))))))) (pOp dMod (pVar 1) (pCon (.int 9))))) pNx)
    (pSq (pIfS (pTest (pOp dEq (pOp dMod (pVar 1) (pCon (.int 9))) (pCon (.int 5))))
      (pSetI 2 (pVar 3) (vLS (pCat (pOp dIx (pVar 2) (pVar 3)) (pOfL (pLst (pCons (pTup pNil) pNil)))))) pNx)
    (pSq (pIfS (pTest (pOp dEq (pOp dMod (pVar 1) (pCon (.int 9))) (pCon (.int 6))))
      (pSetI 2 (pVar 3) (vLS (pSl (pOp dIx (pVar 2) (pVar 3)) pNoPart (pPart (pUn dNeg (pCon (.int 1))))))) pNx)
    (pSq (pIfS (pTest (pOp dGt (pOp dMod (pVar 1) (pCon (.int 9))) (pCon (.int 6))))
      (pSetI 2 (pVar 3) (vF (pOp dIx (pOfL (pLst (pCons (pCall gTuple (pCons (pOp dIx (pVar 2) (pVar 3)) pNil)) (pCons (pCon .none) pNil)))) (pOp dSub (pOp dMod (pVar 1) (pCon (.int 9))) (pCon (.int 7)))))) pNx)
    (pRet (pVar 2))))))))
def m__law_shape : List D → Option D := runF 2 4 b__law_shape
def b__law_crowded : PSt := (pSq (pSet 4 (vS (pOfL (pCallL m__law_filled (pCons (pVar 0) (pCons (pVar 1) (pCons (pVar 2) (pCons (pOp dSub (pCall m__law_cap (pCons (pVar 0) (pCons (pVar 1) pNil))) (pCon (.int 2))) pNil))))))))
    (pSq (pSet 5 (vSL (pComp (pItL (pVar 4)) (bd1 0) (pTest (pOp dNe (pVar 0) (pTup pNil))) (pVar 0) 1 [])))
    (pSq (pSet 6 (vSL (pComp (pCallL gRange1 (pCons (pCall gLen (pCons (pVar 4) pNil)) pNil)) (bd1 0) (pTest (pOp dEq (pOp dIx (pVar 1) (pVar 0)) (pTup pNil))) (pVar 0) 1 [4])))
    (pSq (pIfS (pAndT (pTest (pOp dEq (pVar 3) (pCon (.int 0)))) (pTest (pOp dGt (pVar 1) (pCon (.int 0)))))
      (pRetL (pCallL m__law_filled (pCons (pVar 0) (pCons (pVar 1) (pCons (pVar 2) (pCons (pOp dAdd (pCall m__law_cap (pCons (pVar 0) (pCons (pVar 1) pNil))) (pCon (.int 1))) pNil)))))) pNx)
    (pSq (pIfS (pTest (pOp dEq (pVar 5) (pOfL (pLst pNil))))
      (pSet 5 (vS (pOfL (pLst (pCons (pTup (pCons (pCon (.int 5)) (pCons (pCon (.int 5)) pNil))) pNil))))) pNx)
    (pSq (pSet 7 (vS (pOp dIx (pOfL (pLst (pCons (pOfL (pCat (pVar 5) (pOfL (pLst (pCons (pOp dIx (pVar 5) (pUn dNeg (pCon (.int 1)))) (pCons (pOp dIx (pVar 5) (pUn dNeg (pCon (.int 1)))) pNil)))))) (pCons (pOfL (pCat (pVar 5) (pOfL (pLst (pCons (pTup (pCons (pOp dIx (pOp dIx (pVar 5) (pUn dNeg (pCon (.int 1)))) (pCon (.int 0))) (pCons (pOp dAdd (pOp dIx (pOp dIx (pVar 5) (pUn dNeg (pCon (.int 1)))) (pCon (.int 1))) (pCon (.int 1))) pNil))) pNil))))) pNil)))) (pOp dMod (pVar 3) (pCon (.int 2))))))
    (pSq (pIfS (pAndT (pTest (pOp dEq (pVar 3) (pCon (.int 3)))) (pTest (pOp dGt (pCall gLen (pCons (pVar 5) pNil)) (pCon (.int 1)))))
      (pSet 7 (vS (pOfL (pCat (pOfL (pCat (pOfL (pLst (pCons (pOp dIx (pVar 5) (pCon (.int 0))) (pCons (pOp dIx (pVar 5) (pCon (.int 0))) pNil)))) (pOfL (pSl (pVar 5) (pPart (pCon (.int 1))) pNoPart)))) (pOfL (pLst (pCons (pOp dIx (pVar 5) (pUn dNeg (pCon (.int 1)))) pNil))))))) pNx)
    (pSq (pIfS (pTest (pOp dEq (pVar 3) (pCon (.int 4))))
      (pSet 7 (vS (pOfL (pCat (pVar 5) (pOfL (pLst (pCons (pTup (pCons (pOp dSub (pOp dIx (pOp dIx (pVar 5) (pCon (.int 0))) (pCon (.int 0))) (pCon (.int 1))) (pCons (pCon (.int 4)) pNil))) pNil))))))) pNx)
    (pRetL (pCat (pVar 7) (pOfL (pComp (pCallL gRange1 (pCons (pOp dSub (pCall gLen (pCons (pVar 4) pNil)) (pCall gLen (pCons (pVar 7) pNil))) pNil)) (bd1 0) pTrue (pTup pNil) 1 []))))))))))))
def m__law_crowded : List D → Option (List D) := runL 4 8 b__law_crowded
def b__law_wrong : PSt := (pSq (pSet 3 (vS (pOp dMod (pVar 2) (pCon (.int 8)))))
    (pSq (pIfS (pTest (pOp dEq (pVar 3) (pCon (.int 0))))
      (pRet (pCall m__law_shape (pCons (pVar 1) (pCons (pOp dDiv (pVar 2) (pCon (.int 8))) pNil)))) pNx)
    (pSq (pIfS (pTest (pOp dEq (pVar 3) (pCon (.int 1))))
      (pRet (pOfL (pCallL m__law_sign (pCons (pVar 0) (pCons (pVar 1) (pCons (pOp dDiv (pVar 2) (pCon (.int 8))) pNil)))))) pNx)
    (pSq (pIfS (pTest (pOp dLt (pVar 3) (pCon (.int 4))))
      (pRet (pOfL (pOfN (pCallN m__law_place (pCons (pVar 1) (pCons (pOp dDiv (pVar 2) (pCon (.int 8))) pNil)))))) pNx)
    (pSq (pAsg (bs2 4 5) (vS (pOp dIx (pOp dIx (pVar 1) (pCon (.int 2))) (pCon (.int 0)))))
    (pRet (pOfL (pCallL m__law_disk (pCons (pVar 0) (pCons (pVar 5) (pCons (pVar 4) (pCons (pOfL (pCallL m__law_crowded (pCons (pVar 0) (pCons (pVar 5) (pCons (pVar 2) (pCons (pOp dIx (pOfL (pLst (pCons (pOp dSub (pVar 3) (pCon (.int 4))) (pCons (pCon (.int 4)) pNil)))) (pOp dMod (pOp dDiv (pVar 2) (pCon (.int 8))) (pCon (.int 2)))) pNil)))))) (pCons (pVar 2) pNil)))))))))))))
def m__law_wrong : List D → Option D := runF 3 6 b__law_wrong
def l_law_1 : PSt := (pSq (pSet 3 (vS (pOp dMod (pOp dDiv (pVar 2) (pCon (.int 3))) (pOp dAdd (pOp dIx (pVar 1) (pCon (.int 0))) (pCon (.int 1))))))
      (pSq (pSet 4 (vS (pOfL (pCallL m__law_filled (pCons (pVar 1) (pCons (pVar 3) (pCons (pVar 2) (pCons (pOp dSub (pCall m__law_cap (pCons (pVar 1) (pCons (pVar 3) pNil))) (pOp dMod (pOp dDiv (pVar 2) (pCon (.int 15))) (pCon (.int 3)))) pNil))))))))
      (pSq (pIfS (pTest (pOp dEq (pOp dMod (pOp dDiv (pVar 2) (pCon (.int 45))) (pCon (.int 2))) (pCon (.int 1))))
        (pSet 4 (vS (pOfL (pCallL m__law_doubled (pCons (pVar 4) (pCons (pOp dDiv (pVar 2) (pCon (.int 90))) pNil)))))) pNx)
      (pSq (pSet 5 (vS (pOfL (pCallL m__law_disk (pCons (pVar 1) (pCons (pVar 3) (pCons (pOp dMod (pOp dDiv (pVar 2) (pCon (.int 7))) (pCon (.int 2))) (pCons (pVar 4) (pCons (pVar 2) pNil)))))))))
      (pSq (pSet 6 (vSL (pComp (pItL (pVar 5)) (bd1 0) pTrue (pOfL (pCallL gList (pCons (pVar 0) pNil))) 1 [])))
      (pSq (pIfS (pOrT (pTest (pOp (dIsB true) (pCall m_is_disk (pCons (pVar 1) (pCons (pVar 6) pNil))) (pCon (.bool true)))) (pTest (pOp dNe (pVar 6) (pVar 5))))
        (pRet (pCon (.bool false))) pNx)
      (pIfS (pTest (pOp (dIsB true) (pCall m_is_disk (pCons (pVar 1) (pCons (pCall m__law_wrong (pCons (pVar 1) (pCons (pVar 5) (pCons (pOp dDiv (pVar 2) (pCon (.int 11))) pNil)))) pNil))) (pCon (.bool false))))
        (pRet (pCon (.bool false))) pNx)))))))
def b_law : PSt := (pSq (pSet 1 (vS (pCall m__law_bounds (pCons (pCall m__law_cell (pCons (pVar 0) (pCons (pCon (.int 0)) pNil))) pNil))))
    (pSq (pFor (pItL (pOfL (pComp (pItL (pOfL (pCat (pOfL (pLst (pCons (pCon (.int 0)) pNil))) (pOfL (pSl (pVar 0) (pPart (pCon (.int 1))) (pPart (pCon (.int 12)))))))) (bd1 0) pTrue (pCall m__law_spread (pCons (pVar 0) pNil)) 1 []))) (bs1 2) l_law_1)
    (pRet (pCon (.bool true)))))
def m_law : List D → Option D := runF 1 7 b_law
end S22
set_option maxHeartbeats 4000000
namespace S22
open PySem L2 LL
def top (i : Nat) : Stmt := PySem.Challenge.pw_gapshelf_k22_disk_or_not.main.body.getD i (.Pass ⟨0, 0, 0, 0⟩)
abbrev s_is_whole : Stmt := top 1
abbrev s_twofold : Stmt := top 2
abbrev s_places_of : Stmt := top 3
abbrev s_cap_of : Stmt := top 4
abbrev s_is_straight : Stmt := top 6
abbrev s_is_sound : Stmt := top 7
abbrev s_second_place : Stmt := top 8
abbrev s_mended : Stmt := top 9
abbrev s_rows_of : Stmt := top 10
abbrev s_done : Stmt := top 11
abbrev s_is_pair : Stmt := top 14
abbrev s_is_place : Stmt := top 15
abbrev s_is_area : Stmt := top 16
abbrev s_is_sign : Stmt := top 17
abbrev s_has_form : Stmt := top 18
abbrev s_is_disk : Stmt := top 19
abbrev s_area_on : Stmt := top 20
abbrev s_height_on : Stmt := top 21
abbrev s_shelf_on : Stmt := top 22
abbrev s__law_cell : Stmt := top 24
abbrev s__law_spread : Stmt := top 25
abbrev s__law_mixed : Stmt := top 26
abbrev s__law_bounds : Stmt := top 27
abbrev s__law_two : Stmt := top 28
abbrev s__law_filled : Stmt := top 29
abbrev s__law_area : Stmt := top 30
abbrev s__law_disk : Stmt := top 31
abbrev s__law_cap : Stmt := top 32
abbrev s__law_doubled : Stmt := top 33
abbrev s__law_place : Stmt := top 34
abbrev s__law_sign : Stmt := top 35
abbrev s__law_shape : Stmt := top 36
abbrev s__law_crowded : Stmt := top 37
abbrev s__law_wrong : Stmt := top 38
abbrev s_law : Stmt := top 39
structure Txt (K : PySem.W.Frag) (mg : Str → Option Value) : Prop where
  n_all : mg "all" = none
  n_bool : mg "bool" = none
  n_enumerate : mg "enumerate" = none
  n_int : mg "int" = none
  n_isinstance : mg "isinstance" = none
  n_len : mg "len" = none
  n_list : mg "list" = none
  n_max : mg "max" = none
  n_range : mg "range" = none
  n_tuple : mg "tuple" = none
  n_zip : mg "zip" = none
  c_SIGN_PART : ∃ t, mg "SIGN_PART" = some (.int 2 t)
section
variable {P : Program} {w : World} {K : PySem.W.Frag} {mg : Str → Option Value} {base : Heap}
theorem hfn_is_whole : m_is_whole = runF 1 1 b_is_whole := rfl
theorem sc_is_whole : FnScope ["thing"] ["thing"] (defScope s_is_whole) := ⟨rfl, rfl, rfl, by decide +kernel, rfl, by decide +kernel, by decide +kernel⟩
theorem ok_is_whole (D_is_whole : Def K mg "is_whole" s_is_whole ["thing"]) (T : Txt K mg)  : Callee P w K mg base 1 "is_whole" ["thing"] (spF K 1 m_is_whole) := by
  refine Def.pureF (hfn_is_whole) D_is_whole sc_is_whole rfl rfl fun f cdv A outer s H E hr => ?_
  have hu := hu64 hr
  exact ⟨_, (jss_one (js_ret (je_and (je_isi "int" rfl (by simp) rfl T.n_isinstance rfl T.n_int (by rfl) (je_var 0)) (je_one (je_not (je_isi "bool" rfl (by simp) rfl T.n_isinstance rfl T.n_bool (by rfl) (je_var 0)))))))⟩
theorem hfn_twofold : m_twofold = runF 1 3 b_twofold := rfl
theorem sc_twofold : FnScope ["height", "power", "doubling"] ["height"] (defScope s_twofold) := ⟨rfl, rfl, rfl, by decide +kernel, rfl, by decide +kernel, by decide +kernel⟩
theorem ok_twofold (D_twofold : Def K mg "twofold" s_twofold ["height"]) (T : Txt K mg)  : Callee P w K mg base 1 "twofold" ["height"] (spF K 1 m_twofold) := by
  refine Def.pureF (hfn_twofold) D_twofold sc_twofold rfl rfl fun f cdv A outer s H E hr => ?_
  have hu := hu64 hr
  exact ⟨_, (jss_cons (js_setS (i := 1) sc_twofold.nd rfl (Or.inl rfl) je_int)
    (jss_cons (js_for PassesOwn.never rfl (ji_range1 rfl T.n_range (ja_cons (je_var 0) ja_nil)) (jgs_name (i := 2) sc_twofold.nd rfl (Or.inl rfl))
      (jss_one (js_setS (i := 1) sc_twofold.nd rfl (Or.inl rfl) (je_op jo_mul (je_var 1) je_int))))
    (jss_one (js_ret (je_var 1)))))⟩
theorem hfn_places_of : m_places_of = runF 2 3 b_places_of := rfl
theorem sc_places_of : FnScope ["bounds", "height", "width"] ["bounds", "height"] (defScope s_places_of) := ⟨rfl, rfl, rfl, by decide +kernel, rfl, by decide +kernel, by decide +kernel⟩
theorem ok_places_of (D_places_of : Def K mg "places_of" s_places_of ["bounds", "height"]) (T : Txt K mg) (C_twofold : Callee P w K mg base 1 "twofold" ["height"] (spF K 1 m_twofold)) : Callee P w K mg base 2 "places_of" ["bounds", "height"] (spF K 2 m_places_of) := by
  refine Def.pureF (hfn_places_of) D_places_of sc_places_of rfl rfl fun f cdv A outer s H E hr => ?_
  have hu := hu64 hr
  exact ⟨_, (jss_cons (js_setS (i := 2) sc_places_of.nd rfl (Or.inl rfl) (je_ix rfl (je_var 0) je_int (fun _ _ => rfl)))
    (jss_one (js_ret (je_op jo_mul (je_callC C_twofold (takesF _ _ _) hr rfl (ja_cons (je_var 1) ja_nil)) (je_var 2)))))⟩
theorem hfn_cap_of : m_cap_of = runF 2 4 b_cap_of := rfl
theorem sc_cap_of : FnScope ["bounds", "height", "width", "step"] ["bounds", "height"] (defScope s_cap_of) := ⟨rfl, rfl, rfl, by decide +kernel, rfl, by decide +kernel, by decide +kernel⟩
theorem ok_cap_of (D_cap_of : Def K mg "cap_of" s_cap_of ["bounds", "height"]) (T : Txt K mg) (C_twofold : Callee P w K mg base 1 "twofold" ["height"] (spF K 1 m_twofold)) : Callee P w K mg base 2 "cap_of" ["bounds", "height"] (spF K 2 m_cap_of) := by
  refine Def.pureF (hfn_cap_of) D_cap_of sc_cap_of rfl rfl fun f cdv A outer s H E hr => ?_
  have hu := hu64 hr
  exact ⟨_, (jss_cons (js_setS (i := 2) sc_cap_of.nd rfl (Or.inl rfl) (je_ix rfl (je_var 0) je_int (fun _ _ => rfl)))
    (jss_cons (js_setS (i := 3) sc_cap_of.nd rfl (Or.inl rfl) (je_ix rfl (je_var 0) je_int (fun _ _ => rfl)))
    (jss_one (js_ret (je_op jo_mul (je_callC C_twofold (takesF _ _ _) hr rfl (ja_cons (je_var 1) ja_nil)) (je_op jo_sub (je_var 2) (je_op jo_mul (je_var 3) (je_var 1))))))))⟩
theorem hfn_is_straight : m_is_straight = runF 1 2 b_is_straight := rfl
theorem sc_is_straight : FnScope ["shelf", "keys"] ["shelf"] (defScope s_is_straight) := ⟨rfl, rfl, rfl, by decide +kernel, rfl, by decide +kernel, by decide +kernel⟩
theorem ok_is_straight (D_is_straight : Def K mg "is_straight" s_is_straight ["shelf"]) (T : Txt K mg)  : Callee P w K mg base 1 "is_straight" ["shelf"] (spF K 1 m_is_straight) := by
  refine Def.pureF (hfn_is_straight) D_is_straight sc_is_straight rfl rfl fun f cdv A outer s H E hr => ?_
  have hu := hu64 hr
  exact ⟨_, (jss_cons (js_setCompV (i := 1) vSL pv_SL ["thing"] [] sc_is_straight.nd rfl (Or.inl rfl) rfl (ji_list rfl (je_var 0)) trivial (gk_name (by decide)) (fun _ _ _ _ => jg_name (i := 0) (show (["thing"] : List Str).Nodup by decide +kernel) rfl (Or.inl rfl) (Or.inr rfl)) (fun _ _ _ _ => (jts_one (jt_cmp (jo_ne rfl hu) (je_var 0) (je_tup ja_nil) (nomark _)))) (fun _ _ _ _ => (je_ix rfl (je_var 0) je_int (fun _ _ => rfl))) rfl (by decide) (by decide) (nofree (by decide)) (by rfl))
    (jss_one (js_ret (je_callB (jc_all rfl hr.hd) (by rfl) T.n_all (by rfl) (ja_cons (JL.je (jl_comp ["key", "farther"] [] rfl (ji_zip rfl rfl T.n_zip (ja_cons (je_var 1) (ja_cons (JL.je (jl_slice rfl (je_var 1) (jo_some je_int) jo_none)) ja_nil))) trivial (gk_two (by decide) (by decide)) (fun _ _ _ _ => jg_two (i := 0) (j := 1) rfl rfl (show (["key", "farther"] : List Str).Nodup by decide +kernel) rfl (Or.inl rfl) rfl (Or.inl rfl) (Or.inr rfl) (Or.inr rfl)) (fun _ _ _ _ => jts_nil) (fun _ _ _ _ => (je_cmp jo_lt (je_var 0) (je_var 1) (nomark _))) rfl (by decide) (by decide) (nofree (by decide)))) ja_nil)))))⟩
theorem hfn_done : m_done = runL 2 5 b_done := rfl
theorem sc_done : FnScope ["shelf", "writes", "places", "place", "thing"] ["shelf", "writes"] (defScope s_done) := ⟨rfl, rfl, rfl, by decide +kernel, rfl, by decide +kernel, by decide +kernel⟩
theorem ok_done (D_done : Def K mg "done" s_done ["shelf", "writes"]) (T : Txt K mg)  : Callee P w K mg base 1 "done" ["shelf", "writes"] (spL K 2 m_done) := by
  refine Def.pureL (hfn_done) D_done sc_done rfl rfl fun f cdv A outer s H E hr => ?_
  have hu := hu64 hr
  exact ⟨_, (jss_cons (js_setL (i := 2) sc_done.nd rfl (Or.inl rfl) (jl_callTy (jc_list rfl) (by rfl) T.n_list (by rfl) (ja_cons (je_var 0) ja_nil)))
    (jss_cons (js_for PassesOwn.never rfl (ji_list rfl (je_var 1)) (jgs_two (i := 3) (j := 4) rfl rfl sc_done.nd rfl (Or.inl rfl) rfl (Or.inl rfl))
      (jss_one (js_setIS 2 (je_var 4) (je_var 3))))
    (jss_one (js_retO 2))))⟩
theorem hfn_second_place : m_second_place = runF 1 4 b_second_place := rfl
theorem sc_second_place : FnScope ["shelf", "last", "place", "thing"] ["shelf"] (defScope s_second_place) := ⟨rfl, rfl, rfl, by decide +kernel, rfl, by decide +kernel, by decide +kernel⟩
theorem ok_second_place (D_second_place : Def K mg "second_place" s_second_place ["shelf"]) (T : Txt K mg)  : Callee P w K mg base 1 "second_place" ["shelf"] (spF K 1 m_second_place) := by
  refine Def.pureF (hfn_second_place) D_second_place sc_second_place rfl rfl fun f cdv A outer s H E hr => ?_
  have hu := hu64 hr
  exact ⟨_, (jss_cons (js_setS (i := 1) sc_second_place.nd rfl (Or.inl rfl) (je_tup ja_nil))
    (jss_cons (js_for PassesOwn.never rfl (ji_enum rfl rfl T.n_enumerate (ja_cons (je_var 0) ja_nil)) (jgs_two (i := 2) (j := 3) rfl rfl sc_second_place.nd rfl (Or.inl rfl) rfl (Or.inl rfl))
      (jss_cons (js_if (JW.jt (jw_and (jt_cmp (jo_ne rfl hu) (je_var 3) (je_tup ja_nil) (nomark _)) (jw_and1 (jt_cmp (jo_eq rfl hu) (je_var 3) (je_var 1) (nomark _)))))
        (jss_one (js_ret (je_var 2))) jss_nil)
      (jss_one (js_if (jt_cmp (jo_ne rfl hu) (je_var 3) (je_tup ja_nil) (nomark _))
        (jss_one (js_setS (i := 1) sc_second_place.nd rfl (Or.inl rfl) (je_var 3))) jss_nil))))
    (jss_one (js_ret je_non))))⟩
theorem hfn_mended : m_mended = runL 1 2 b_mended := rfl
theorem sc_mended : FnScope ["shelf", "second"] ["shelf"] (defScope s_mended) := ⟨rfl, rfl, rfl, by decide +kernel, rfl, by decide +kernel, by decide +kernel⟩
theorem ok_mended (D_mended : Def K mg "mended" s_mended ["shelf"]) (T : Txt K mg) (C_done : Callee P w K mg base 1 "done" ["shelf", "writes"] (spL K 2 m_done)) (C_second_place : Callee P w K mg base 1 "second_place" ["shelf"] (spF K 1 m_second_place)) : Callee P w K mg base 2 "mended" ["shelf"] (spL K 1 m_mended) := by
  refine Def.pureL (hfn_mended) D_mended sc_mended rfl rfl fun f cdv A outer s H E hr => ?_
  have hu := hu64 hr
  exact ⟨_, (jss_cons (js_setS (i := 1) sc_mended.nd rfl (Or.inl rfl) (je_callC C_second_place (takesF _ _ _) hr rfl (ja_cons (je_var 0) ja_nil)))
    (jss_cons (js_if (jt_cmp jo_isN (je_var 1) je_non (nomark _))
      (jss_one (js_retL (jl_callTy (jc_list rfl) (by rfl) T.n_list (by rfl) (ja_cons (je_var 0) ja_nil)))) jss_nil)
    (jss_one (js_retL (jl_callC C_done (takesL _ _ _) hr rfl (ja_cons (je_var 0) (ja_cons (JL.je (jl_lst (ja_cons (je_tup (ja_cons (je_var 1) (ja_cons (je_tup ja_nil) ja_nil))) ja_nil))) ja_nil)))))))⟩
theorem hfn_is_sound : m_is_sound = runF 1 1 b_is_sound := rfl
theorem sc_is_sound : FnScope ["shelf"] ["shelf"] (defScope s_is_sound) := ⟨rfl, rfl, rfl, by decide +kernel, rfl, by decide +kernel, by decide +kernel⟩
theorem ok_is_sound (D_is_sound : Def K mg "is_sound" s_is_sound ["shelf"]) (T : Txt K mg) (C_is_straight : Callee P w K mg base 2 "is_straight" ["shelf"] (spF K 1 m_is_straight)) (C_mended : Callee P w K mg base 2 "mended" ["shelf"] (spL K 1 m_mended)) : Callee P w K mg base 3 "is_sound" ["shelf"] (spF K 1 m_is_sound) := by
  refine Def.pureF (hfn_is_sound) D_is_sound sc_is_sound rfl rfl fun f cdv A outer s H E hr => ?_
  have hu := hu64 hr
  exact ⟨_, (jss_one (js_ret (je_callC C_is_straight (takesF _ _ _) hr rfl (ja_cons (JL.je (jl_callC C_mended (takesL _ _ _) hr rfl (ja_cons (je_var 0) ja_nil))) ja_nil))))⟩
theorem hfn_rows_of : m_rows_of = runL 1 1 b_rows_of := rfl
theorem sc_rows_of : FnScope ["shelf"] ["shelf"] (defScope s_rows_of) := ⟨rfl, rfl, rfl, by decide +kernel, rfl, by decide +kernel, by decide +kernel⟩
theorem ok_rows_of (D_rows_of : Def K mg "rows_of" s_rows_of ["shelf"]) (T : Txt K mg) (C_mended : Callee P w K mg base 2 "mended" ["shelf"] (spL K 1 m_mended)) : Callee P w K mg base 3 "rows_of" ["shelf"] (spL K 1 m_rows_of) := by
  refine Def.pureL (hfn_rows_of) D_rows_of sc_rows_of rfl rfl fun f cdv A outer s H E hr => ?_
  have hu := hu64 hr
  exact ⟨_, (jss_one (js_retL (jl_comp ["thing"] [] rfl (ji_list rfl (JL.je (jl_callC C_mended (takesL _ _ _) hr rfl (ja_cons (je_var 0) ja_nil)))) trivial (gk_name (by decide)) (fun _ _ _ _ => jg_name (i := 0) (show (["thing"] : List Str).Nodup by decide +kernel) rfl (Or.inl rfl) (Or.inr rfl)) (fun _ _ _ _ => (jts_one (jt_cmp (jo_ne rfl hu) (je_var 0) (je_tup ja_nil) (nomark _)))) (fun _ _ _ _ => (je_var 0)) rfl (by decide) (by decide) (nofree (by decide)))))⟩
theorem hfn_is_pair : m_is_pair = runF 1 1 b_is_pair := rfl
theorem sc_is_pair : FnScope ["thing"] ["thing"] (defScope s_is_pair) := ⟨rfl, rfl, rfl, by decide +kernel, rfl, by decide +kernel, by decide +kernel⟩
theorem ok_is_pair (D_is_pair : Def K mg "is_pair" s_is_pair ["thing"]) (T : Txt K mg) (C_is_whole : Callee P w K mg base 1 "is_whole" ["thing"] (spF K 1 m_is_whole)) : Callee P w K mg base 2 "is_pair" ["thing"] (spF K 1 m_is_pair) := by
  refine Def.pureF (hfn_is_pair) D_is_pair sc_is_pair rfl rfl fun f cdv A outer s H E hr => ?_
  have hu := hu64 hr
  exact ⟨_, (jss_one (js_ret (je_and (je_isi "tuple" rfl (by simp) rfl T.n_isinstance rfl T.n_tuple (by rfl) (je_var 0)) (je_and (je_cmp (jo_eq rfl hu) (je_callB (jc_len rfl) (by rfl) T.n_len (by rfl) (ja_cons (je_var 0) ja_nil)) je_int (nomark _)) (je_and (je_callC C_is_whole (takesF _ _ _) hr rfl (ja_cons (je_ix rfl (je_var 0) je_int (fun _ _ => rfl)) ja_nil)) (je_one (je_callC C_is_whole (takesF _ _ _) hr rfl (ja_cons (je_ix rfl (je_var 0) je_int (fun _ _ => rfl)) ja_nil))))))))⟩
theorem hfn_is_place : m_is_place = runF 1 1 b_is_place := rfl
theorem sc_is_place : FnScope ["thing"] ["thing"] (defScope s_is_place) := ⟨rfl, rfl, rfl, by decide +kernel, rfl, by decide +kernel, by decide +kernel⟩
theorem ok_is_place (D_is_place : Def K mg "is_place" s_is_place ["thing"]) (T : Txt K mg) (C_is_pair : Callee P w K mg base 2 "is_pair" ["thing"] (spF K 1 m_is_pair)) : Callee P w K mg base 3 "is_place" ["thing"] (spF K 1 m_is_place) := by
  refine Def.pureF (hfn_is_place) D_is_place sc_is_place rfl rfl fun f cdv A outer s H E hr => ?_
  have hu := hu64 hr
  exact ⟨_, (jss_one (js_ret (je_or (je_callC C_is_pair (takesF _ _ _) hr rfl (ja_cons (je_var 0) ja_nil)) (je_one (je_and (je_isi "tuple" rfl (by simp) rfl T.n_isinstance rfl T.n_tuple (by rfl) (je_var 0)) (je_one (je_cmp (jo_eq rfl hu) (je_callB (jc_len rfl) (by rfl) T.n_len (by rfl) (ja_cons (je_var 0) ja_nil)) je_int (nomark _))))))))⟩
theorem hfn_is_area : m_is_area = runF 2 2 b_is_area := rfl
theorem sc_is_area : FnScope ["thing", "size"] ["thing", "size"] (defScope s_is_area) := ⟨rfl, rfl, rfl, by decide +kernel, rfl, by decide +kernel, by decide +kernel⟩
theorem ok_is_area (D_is_area : Def K mg "is_area" s_is_area ["thing", "size"]) (T : Txt K mg) (C_is_place : Callee P w K mg base 3 "is_place" ["thing"] (spF K 1 m_is_place)) : Callee P w K mg base 4 "is_area" ["thing", "size"] (spF K 2 m_is_area) := by
  refine Def.pureF (hfn_is_area) D_is_area sc_is_area rfl rfl fun f cdv A outer s H E hr => ?_
  have hu := hu64 hr
  exact ⟨_, (jss_one (js_ret (je_and (je_isi "list" rfl (by simp) rfl T.n_isinstance rfl T.n_list (by rfl) (je_var 0)) (je_and (je_cmp (jo_eq rfl hu) (je_callB (jc_len rfl) (by rfl) T.n_len (by rfl) (ja_cons (je_var 0) ja_nil)) (je_var 1) (nomark _)) (je_one (je_callB (jc_all rfl hr.hd) (by rfl) T.n_all (by rfl) (ja_cons (JL.je (jl_comp ["place"] [] rfl (ji_list rfl (je_var 0)) trivial (gk_name (by decide)) (fun _ _ _ _ => jg_name (i := 0) (show (["place"] : List Str).Nodup by decide +kernel) rfl (Or.inl rfl) (Or.inr rfl)) (fun _ _ _ _ => jts_nil) (fun _ _ _ _ => (je_callC C_is_place (takesF _ _ _) hr rfl (ja_cons (je_var 0) ja_nil))) rfl (by decide) (by decide) (nofree (by decide)))) ja_nil)))))))⟩
theorem hfn_is_sign : m_is_sign = runF 2 2 b_is_sign := rfl
theorem sc_is_sign : FnScope ["bounds", "thing"] ["bounds", "thing"] (defScope s_is_sign) := ⟨rfl, rfl, rfl, by decide +kernel, rfl, by decide +kernel, by decide +kernel⟩
theorem ok_is_sign (D_is_sign : Def K mg "is_sign" s_is_sign ["bounds", "thing"]) (T : Txt K mg) (C_is_pair : Callee P w K mg base 2 "is_pair" ["thing"] (spF K 1 m_is_pair)) : Callee P w K mg base 3 "is_sign" ["bounds", "thing"] (spF K 2 m_is_sign) := by
  refine Def.pureF (hfn_is_sign) D_is_sign sc_is_sign rfl rfl fun f cdv A outer s H E hr => ?_
  have hu := hu64 hr
  exact ⟨_, (jss_one (js_ret (je_and (je_callC C_is_pair (takesF _ _ _) hr rfl (ja_cons (je_var 1) ja_nil)) (je_and (je_chain jo_le jo_le je_int (je_ix rfl (je_var 1) je_int (fun _ _ => rfl)) je_int) (je_one (je_chain jo_le jo_le je_int (je_ix rfl (je_var 1) je_int (fun _ _ => rfl)) (je_ix rfl (je_var 0) je_int (fun _ _ => rfl))))))))⟩
theorem hfn_has_form : m_has_form = runF 2 4 b_has_form := rfl
theorem sc_has_form : FnScope ["bounds", "thing", "size", "signs"] ["bounds", "thing"] (defScope s_has_form) := ⟨rfl, rfl, rfl, by decide +kernel, rfl, by decide +kernel, by decide +kernel⟩
theorem ok_has_form (D_has_form : Def K mg "has_form" s_has_form ["bounds", "thing"]) (T : Txt K mg) (C_is_area : Callee P w K mg base 4 "is_area" ["thing", "size"] (spF K 2 m_is_area)) (C_is_sign : Callee P w K mg base 4 "is_sign" ["bounds", "thing"] (spF K 2 m_is_sign)) (C_places_of : Callee P w K mg base 4 "places_of" ["bounds", "height"] (spF K 2 m_places_of)) : Callee P w K mg base 5 "has_form" ["bounds", "thing"] (spF K 2 m_has_form) := by
  refine Def.pureF (hfn_has_form) D_has_form sc_has_form rfl rfl fun f cdv A outer s H E hr => ?_
  have hu := hu64 hr
  exact ⟨_, (jss_cons (js_if (JW.jt (jw_or (jt_not (jt_val (je_isi "list" rfl (by simp) rfl T.n_isinstance rfl T.n_list (by rfl) (je_var 1)) (fun _ => rfl))) (jw_or1 (jt_cmp (jo_ne rfl hu) (je_callB (jc_len rfl) (by rfl) T.n_len (by rfl) (ja_cons (je_var 1) ja_nil)) je_int (nomark _)))))
      (jss_one (js_ret je_bl)) jss_nil)
    (jss_cons (js_setS (i := 2) sc_has_form.nd rfl (Or.inl rfl) (je_callC C_places_of (takesF _ _ _) hr rfl (ja_cons (je_var 0) (ja_cons (je_ix rfl (je_var 0) je_int (fun _ _ => rfl)) ja_nil))))
    (jss_cons (js_if (JW.jt (jw_or (jt_not (jt_val (je_callC C_is_area (takesF _ _ _) hr rfl (ja_cons (je_ix rfl (je_var 1) je_int (fun _ _ => rfl)) (ja_cons (je_var 2) ja_nil))) (fun _ => rfl))) (jw_or1 (jt_not (jt_val (je_callC C_is_area (takesF _ _ _) hr rfl (ja_cons (je_ix rfl (je_var 1) je_int (fun _ _ => rfl)) (ja_cons (je_var 2) ja_nil))) (fun _ => rfl))))))
      (jss_one (js_ret je_bl)) jss_nil)
    (jss_cons (js_setS (i := 3) sc_has_form.nd rfl (Or.inl rfl) (je_ix rfl (je_var 1) (je_glob (i := 2) rfl T.c_SIGN_PART) (fun _ _ => rfl)))
    (jss_one (js_ret (je_and (je_isi "list" rfl (by simp) rfl T.n_isinstance rfl T.n_list (by rfl) (je_var 3)) (je_and (je_cmp (jo_eq rfl hu) (je_callB (jc_len rfl) (by rfl) T.n_len (by rfl) (ja_cons (je_var 3) ja_nil)) je_int (nomark _)) (je_one (je_callC C_is_sign (takesF _ _ _) hr rfl (ja_cons (je_var 0) (ja_cons (je_ix rfl (je_var 3) je_int (fun _ _ => rfl)) ja_nil))))))))))))⟩
theorem hfn_height_on : m_height_on = runF 1 1 b_height_on := rfl
theorem sc_height_on : FnScope ["disk"] ["disk"] (defScope s_height_on) := ⟨rfl, rfl, rfl, by decide +kernel, rfl, by decide +kernel, by decide +kernel⟩
theorem ok_height_on (D_height_on : Def K mg "height_on" s_height_on ["disk"]) (T : Txt K mg)  : Callee P w K mg base 1 "height_on" ["disk"] (spF K 1 m_height_on) := by
  refine Def.pureF (hfn_height_on) D_height_on sc_height_on rfl rfl fun f cdv A outer s H E hr => ?_
  have hu := hu64 hr
  exact ⟨_, (jss_one (js_ret (je_ix rfl (je_ix rfl (je_ix rfl (je_var 0) (je_glob (i := 2) rfl T.c_SIGN_PART) (fun _ _ => rfl)) je_int (fun _ _ => rfl)) je_int (fun _ _ => rfl))))⟩
theorem hfn_area_on : m_area_on = runF 1 1 b_area_on := rfl
theorem sc_area_on : FnScope ["disk"] ["disk"] (defScope s_area_on) := ⟨rfl, rfl, rfl, by decide +kernel, rfl, by decide +kernel, by decide +kernel⟩
theorem ok_area_on (D_area_on : Def K mg "area_on" s_area_on ["disk"]) (T : Txt K mg)  : Callee P w K mg base 1 "area_on" ["disk"] (spF K 1 m_area_on) := by
  refine Def.pureF (hfn_area_on) D_area_on sc_area_on rfl rfl fun f cdv A outer s H E hr => ?_
  have hu := hu64 hr
  exact ⟨_, (jss_one (js_ret (je_ix rfl (je_ix rfl (je_ix rfl (je_var 0) (je_glob (i := 2) rfl T.c_SIGN_PART) (fun _ _ => rfl)) je_int (fun _ _ => rfl)) je_int (fun _ _ => rfl))))⟩
theorem hfn_shelf_on : m_shelf_on = runL 2 2 b_shelf_on := rfl
theorem sc_shelf_on : FnScope ["bounds", "disk"] ["bounds", "disk"] (defScope s_shelf_on) := ⟨rfl, rfl, rfl, by decide +kernel, rfl, by decide +kernel, by decide +kernel⟩
theorem ok_shelf_on (D_shelf_on : Def K mg "shelf_on" s_shelf_on ["bounds", "disk"]) (T : Txt K mg) (C_area_on : Callee P w K mg base 2 "area_on" ["disk"] (spF K 1 m_area_on)) (C_height_on : Callee P w K mg base 2 "height_on" ["disk"] (spF K 1 m_height_on)) (C_places_of : Callee P w K mg base 2 "places_of" ["bounds", "height"] (spF K 2 m_places_of)) : Callee P w K mg base 3 "shelf_on" ["bounds", "disk"] (spL K 2 m_shelf_on) := by
  refine Def.pureL (hfn_shelf_on) D_shelf_on sc_shelf_on rfl rfl fun f cdv A outer s H E hr => ?_
  have hu := hu64 hr
  exact ⟨_, (jss_one (js_retL (jl_slice rfl (je_ix rfl (je_var 1) (je_callC C_area_on (takesF _ _ _) hr rfl (ja_cons (je_var 1) ja_nil)) (fun _ _ => rfl)) jo_none (jo_some (je_callC C_places_of (takesF _ _ _) hr rfl (ja_cons (je_var 0) (ja_cons (je_callC C_height_on (takesF _ _ _) hr rfl (ja_cons (je_var 1) ja_nil)) ja_nil)))))))⟩
theorem hfn_is_disk : m_is_disk = runF 2 3 b_is_disk := rfl
theorem sc_is_disk : FnScope ["bounds", "thing", "shelf"] ["bounds", "thing"] (defScope s_is_disk) := ⟨rfl, rfl, rfl, by decide +kernel, rfl, by decide +kernel, by decide +kernel⟩
theorem ok_is_disk (D_is_disk : Def K mg "is_disk" s_is_disk ["bounds", "thing"]) (T : Txt K mg) (C_cap_of : Callee P w K mg base 5 "cap_of" ["bounds", "height"] (spF K 2 m_cap_of)) (C_has_form : Callee P w K mg base 5 "has_form" ["bounds", "thing"] (spF K 2 m_has_form)) (C_height_on : Callee P w K mg base 5 "height_on" ["disk"] (spF K 1 m_height_on)) (C_is_sound : Callee P w K mg base 5 "is_sound" ["shelf"] (spF K 1 m_is_sound)) (C_rows_of : Callee P w K mg base 5 "rows_of" ["shelf"] (spL K 1 m_rows_of)) (C_shelf_on : Callee P w K mg base 5 "shelf_on" ["bounds", "disk"] (spL K 2 m_shelf_on)) : Callee P w K mg base 6 "is_disk" ["bounds", "thing"] (spF K 2 m_is_disk) := by
  refine Def.pureF (hfn_is_disk) D_is_disk sc_is_disk rfl rfl fun f cdv A outer s H E hr => ?_
  have hu := hu64 hr
  exact ⟨_, (jss_cons (js_if (jt_not (jt_val (je_callC C_has_form (takesF _ _ _) hr rfl (ja_cons (je_var 0) (ja_cons (je_var 1) ja_nil))) (fun _ => rfl)))
      (jss_one (js_ret je_bl)) jss_nil)
    (jss_cons (js_setS (i := 2) sc_is_disk.nd rfl (Or.inl rfl) (JL.je (jl_callC C_shelf_on (takesL _ _ _) hr rfl (ja_cons (je_var 0) (ja_cons (je_var 1) ja_nil)))))
    (jss_one (js_ret (je_and (je_callC C_is_sound (takesF _ _ _) hr rfl (ja_cons (je_var 2) ja_nil)) (je_one (je_cmp jo_le (je_callB (jc_len rfl) (by rfl) T.n_len (by rfl) (ja_cons (JL.je (jl_callC C_rows_of (takesL _ _ _) hr rfl (ja_cons (je_var 2) ja_nil))) ja_nil)) (je_callC C_cap_of (takesF _ _ _) hr rfl (ja_cons (je_var 0) (ja_cons (je_callC C_height_on (takesF _ _ _) hr rfl (ja_cons (je_var 1) ja_nil)) ja_nil))) (nomark _))))))))⟩
theorem hfn__law_cell : m__law_cell = runF 2 2 b__law_cell := rfl
theorem sc__law_cell : FnScope ["script", "k"] ["script", "k"] (defScope s__law_cell) := ⟨rfl, rfl, rfl, by decide +kernel, rfl, by decide +kernel, by decide +kernel⟩
theorem ok__law_cell (D__law_cell : Def K mg "_law_cell" s__law_cell ["script", "k"]) (T : Txt K mg)  : Callee P w K mg base 1 "_law_cell" ["script", "k"] (spF K 2 m__law_cell) := by
  refine Def.pureF (hfn__law_cell) D__law_cell sc__law_cell rfl rfl fun f cdv A outer s H E hr => ?_
  have hu := hu64 hr
  exact ⟨_, (jss_cons (js_if (jt_cmp jo_lt (je_var 1) (je_callB (jc_len rfl) (by rfl) T.n_len (by rfl) (ja_cons (je_var 0) ja_nil)) (nomark _))
      (jss_one (js_ret (je_ix rfl (je_var 0) (je_var 1) (fun _ _ => rfl)))) jss_nil)
    (jss_one (js_ret je_int)))⟩
theorem hfn__law_spread : m__law_spread = runF 1 2 b__law_spread := rfl
theorem sc__law_spread : FnScope ["cell", "number"] ["cell"] (defScope s__law_spread) := ⟨rfl, rfl, rfl, by decide +kernel, rfl, by decide +kernel, by decide +kernel⟩
theorem ok__law_spread (D__law_spread : Def K mg "_law_spread" s__law_spread ["cell"]) (T : Txt K mg)  : Callee P w K mg base 1 "_law_spread" ["cell"] (spF K 1 m__law_spread) := by
  refine Def.pureF (hfn__law_spread) D__law_spread sc__law_spread rfl rfl fun f cdv A outer s H E hr => ?_
  have hu := hu64 hr
  exact ⟨_, (jss_cons (js_setS (i := 1) sc__law_spread.nd rfl (Or.inl rfl) (je_op jo_mod (je_op jo_mul (je_op jo_add (je_op jo_mod (je_var 0) je_int) je_int) je_int) je_int))
    (jss_one (js_ret (je_op jo_add (je_op jo_mod (je_op jo_mul (je_var 1) (je_var 1)) je_int) (je_op jo_mul (je_op jo_mod (je_var 0) (je_op jo_pow je_int je_int)) je_int)))))⟩
theorem hfn__law_mixed : m__law_mixed = runF 2 3 b__law_mixed := rfl
theorem sc__law_mixed : FnScope ["cell", "k", "number"] ["cell", "k"] (defScope s__law_mixed) := ⟨rfl, rfl, rfl, by decide +kernel, rfl, by decide +kernel, by decide +kernel⟩
theorem ok__law_mixed (D__law_mixed : Def K mg "_law_mixed" s__law_mixed ["cell", "k"]) (T : Txt K mg)  : Callee P w K mg base 1 "_law_mixed" ["cell", "k"] (spF K 2 m__law_mixed) := by
  refine Def.pureF (hfn__law_mixed) D__law_mixed sc__law_mixed rfl rfl fun f cdv A outer s H E hr => ?_
  have hu := hu64 hr
  exact ⟨_, (jss_cons (js_setS (i := 2) sc__law_mixed.nd rfl (Or.inl rfl) (je_op jo_mod (je_op jo_mul (je_op jo_add (je_op jo_mod (je_var 0) je_int) je_int) je_int) je_int))
    (jss_cons (js_setS (i := 2) sc__law_mixed.nd rfl (Or.inl rfl) (je_op jo_mod (je_op jo_add (je_op jo_add (je_op jo_mul (je_var 2) (je_var 2)) (je_op jo_mul (je_var 1) je_int)) je_int) je_int))
    (jss_one (js_ret (je_op jo_mod (je_op jo_mul (je_var 2) (je_var 2)) je_int)))))⟩
theorem hfn__law_bounds : m__law_bounds = runF 1 6 b__law_bounds := rfl
theorem sc__law_bounds : FnScope ["cell", "number", "top", "step", "low", "more"] ["cell"] (defScope s__law_bounds) := ⟨rfl, rfl, rfl, by decide +kernel, rfl, by decide +kernel, by decide +kernel⟩
theorem ok__law_bounds (D__law_bounds : Def K mg "_law_bounds" s__law_bounds ["cell"]) (T : Txt K mg) (C__law_spread : Callee P w K mg base 1 "_law_spread" ["cell"] (spF K 1 m__law_spread)) : Callee P w K mg base 2 "_law_bounds" ["cell"] (spF K 1 m__law_bounds) := by
  refine Def.pureF (hfn__law_bounds) D__law_bounds sc__law_bounds rfl rfl fun f cdv A outer s H E hr => ?_
  have hu := hu64 hr
  exact ⟨_, (jss_cons (js_setS (i := 1) sc__law_bounds.nd rfl (Or.inl rfl) (je_callC C__law_spread (takesF _ _ _) hr rfl (ja_cons (je_var 0) ja_nil)))
    (jss_cons (js_setS (i := 2) sc__law_bounds.nd rfl (Or.inl rfl) (je_ix rfl (JL.je (jl_lst (ja_cons je_int (ja_cons je_int (ja_cons je_int (ja_cons je_int (ja_cons je_int (ja_cons je_int (ja_cons je_int (ja_cons je_int ja_nil)))))))))) (je_op jo_mod (je_var 1) je_int) (fun _ _ => rfl)))
    (jss_cons (js_setS (i := 3) sc__law_bounds.nd rfl (Or.inl rfl) (je_op jo_add je_int (je_op jo_mod (je_op jo_div (je_var 1) je_int) (je_op jo_div je_int (je_op jo_add (je_var 2) je_int)))))
    (jss_cons (js_setS (i := 4) sc__law_bounds.nd rfl (Or.inl rfl) (je_op jo_mul (je_var 3) (je_op jo_add (je_var 2) je_int)))
    (jss_cons (js_setS (i := 5) sc__law_bounds.nd rfl (Or.inl rfl) (je_ix rfl (JL.je (jl_lst (ja_cons (je_op jo_mod (je_op jo_div (je_var 1) je_int) je_int) (ja_cons (je_op jo_mod (je_op jo_div (je_var 1) je_int) je_int) ja_nil)))) (je_op jo_mod (je_op jo_div (je_var 1) je_int) je_int) (fun _ _ => rfl)))
    (jss_one (js_ret (je_tup (ja_cons (je_var 2) (ja_cons (je_op jo_add (je_var 4) (je_op jo_mod (je_var 5) (je_op jo_sub je_int (je_var 4)))) (ja_cons (je_var 3) ja_nil)))))))))))⟩
theorem hfn__law_two : m__law_two = runF 1 1 b__law_two := rfl
theorem sc__law_two : FnScope ["height"] ["height"] (defScope s__law_two) := ⟨rfl, rfl, rfl, by decide +kernel, rfl, by decide +kernel, by decide +kernel⟩
theorem ok__law_two (D__law_two : Def K mg "_law_two" s__law_two ["height"]) (T : Txt K mg)  : Callee P w K mg base 1 "_law_two" ["height"] (spF K 1 m__law_two) := by
  refine Def.pureF (hfn__law_two) D__law_two sc__law_two rfl rfl fun f cdv A outer s H E hr => ?_
  have hu := hu64 hr
  exact ⟨_, (jss_one (js_ret (je_ix rfl (JL.je (jl_lst (ja_cons je_int (ja_cons je_int (ja_cons je_int (ja_cons je_int (ja_cons je_int ja_nil))))))) (je_var 0) (fun _ _ => rfl))))⟩
theorem hfn__law_filled : m__law_filled = runL 4 9 b__law_filled := rfl
theorem sc__law_filled : FnScope ["bounds", "height", "cell", "many", "size", "left", "shelf", "k", "amount"] ["bounds", "height", "cell", "many"] (defScope s__law_filled) := ⟨rfl, rfl, rfl, by decide +kernel, rfl, by decide +kernel, by decide +kernel⟩
theorem ok__law_filled (D__law_filled : Def K mg "_law_filled" s__law_filled ["bounds", "height", "cell", "many"]) (T : Txt K mg) (C__law_mixed : Callee P w K mg base 1 "_law_mixed" ["cell", "k"] (spF K 2 m__law_mixed)) (C__law_two : Callee P w K mg base 1 "_law_two" ["height"] (spF K 1 m__law_two)) : Callee P w K mg base 2 "_law_filled" ["bounds", "height", "cell", "many"] (spL K 4 m__law_filled) := by
  refine Def.pureL (hfn__law_filled) D__law_filled sc__law_filled rfl rfl fun f cdv A outer s H E hr => ?_
  have hu := hu64 hr
  exact ⟨_, (jss_cons (js_setS (i := 4) sc__law_filled.nd rfl (Or.inl rfl) (je_op jo_mul (je_callC C__law_two (takesF _ _ _) hr rfl (ja_cons (je_var 1) ja_nil)) (je_ix rfl (je_var 0) je_int (fun _ _ => rfl))))
    (jss_cons (js_setL (i := 5) sc__law_filled.nd rfl (Or.inl rfl) (jl_listRange hr.hd rfl T.n_list rfl T.n_range (ja_cons (je_var 4) ja_nil)))
    (jss_cons (js_while 1000000 PassesOwn.never (jt_cmp jo_gt (je_callB (jc_len rfl) (by rfl) T.n_len (by rfl) (ja_cons (je_var 5) ja_nil)) (je_callB (jc_max rfl) (by rfl) T.n_max (by rfl) (ja_cons je_int (ja_cons (je_var 3) ja_nil))) (nomark _))
      (jss_one (js_popI 5 (je_op jo_mod (je_op jo_div (je_callC C__law_mixed (takesF _ _ _) hr rfl (ja_cons (je_var 2) (ja_cons (je_callB (jc_len rfl) (by rfl) T.n_len (by rfl) (ja_cons (je_var 5) ja_nil)) ja_nil))) je_int) (je_callB (jc_len rfl) (by rfl) T.n_len (by rfl) (ja_cons (je_var 5) ja_nil))) rfl)))
    (jss_cons (js_setCompV (i := 6) vL pv_L ["place"] [] sc__law_filled.nd rfl (Or.inl rfl) rfl (ji_range1 rfl T.n_range (ja_cons (je_var 4) ja_nil)) trivial (gk_name (by decide)) (fun _ _ _ _ => jg_name (i := 0) (show (["place"] : List Str).Nodup by decide +kernel) rfl (Or.inl rfl) (Or.inr rfl)) (fun _ _ _ _ => jts_nil) (fun _ _ _ _ => (je_tup ja_nil)) rfl (by decide) (by decide) (nofree (by decide)) (by rfl))
    (jss_cons (js_forR1 PassesOwn.never rfl rfl T.n_range (ja_cons (je_callB (jc_len rfl) (by rfl) T.n_len (by rfl) (ja_cons (je_var 5) ja_nil)) ja_nil) (jgs_name (i := 7) sc__law_filled.nd rfl (Or.inl rfl))
      (jss_cons (js_setS (i := 8) sc__law_filled.nd rfl (Or.inl rfl) (je_op jo_sub (je_op jo_mod (je_callC C__law_mixed (takesF _ _ _) hr rfl (ja_cons (je_var 2) (ja_cons (je_var 7) ja_nil))) (je_ix rfl (JL.je (jl_lst (ja_cons (je_op jo_pow je_int je_int) (ja_cons je_int ja_nil)))) (je_op jo_mod (je_var 7) je_int) (fun _ _ => rfl))) je_int))
      (jss_one (js_setIS 6 (je_tup (ja_cons (je_op jo_sub (je_op jo_mul (je_op jo_mul je_int (je_var 7)) (je_ix rfl (JL.je (jl_lst (ja_cons je_int (ja_cons (je_op jo_pow je_int je_int) ja_nil)))) (je_op jo_mod (je_var 2) je_int) (fun _ _ => rfl))) (je_op jo_mod (je_var 2) (je_op jo_pow je_int je_int))) (ja_cons (je_var 8) ja_nil))) (je_ix rfl (je_var 5) (je_var 7) (fun _ _ => rfl))))))
    (jss_one (js_retO 6)))))))⟩
theorem hfn__law_area : m__law_area = runL 4 8 b__law_area := rfl
theorem sc__law_area : FnScope ["cell", "k", "size", "things", "area", "place", "number", "key"] ["cell", "k", "size", "things"] (defScope s__law_area) := ⟨rfl, rfl, rfl, by decide +kernel, rfl, by decide +kernel, by decide +kernel⟩
theorem ok__law_area (D__law_area : Def K mg "_law_area" s__law_area ["cell", "k", "size", "things"]) (T : Txt K mg) (C__law_mixed : Callee P w K mg base 1 "_law_mixed" ["cell", "k"] (spF K 2 m__law_mixed)) : Callee P w K mg base 2 "_law_area" ["cell", "k", "size", "things"] (spL K 4 m__law_area) := by
  refine Def.pureL (hfn__law_area) D__law_area sc__law_area rfl rfl fun f cdv A outer s H E hr => ?_
  have hu := hu64 hr
  exact ⟨_, (jss_cons (js_setL (i := 4) sc__law_area.nd rfl (Or.inl rfl) (jl_lst ja_nil))
    (jss_cons (js_for PassesOwn.never rfl (ji_range1 rfl T.n_range (ja_cons (je_var 2) ja_nil)) (jgs_name (i := 5) sc__law_area.nd rfl (Or.inl rfl))
      (jss_cons (js_setS (i := 6) sc__law_area.nd rfl (Or.inl rfl) (je_callC C__law_mixed (takesF _ _ _) hr rfl (ja_cons (je_var 0) (ja_cons (je_op jo_add (je_op jo_add (je_op jo_mul je_int (je_var 5)) (je_var 1)) je_int) ja_nil))))
      (jss_cons (js_setS (i := 7) sc__law_area.nd rfl (Or.inl rfl) (je_op jo_sub (je_op jo_mod (je_op jo_div (je_var 6) je_int) je_int) je_int))
      (jss_cons (js_if (JW.jt (jw_and (jt_cmp (jo_ne rfl hu) (je_var 3) (JL.je (jl_lst ja_nil)) (nomark _)) (jw_and1 (jt_cmp (jo_eq rfl hu) (je_op jo_mod (je_op jo_div (je_var 6) je_int) je_int) je_int (nomark _)))))
        (jss_one (js_setS (i := 7) sc__law_area.nd rfl (Or.inl rfl) (je_op jo_sub (je_op jo_add (je_ix rfl (je_ix rfl (je_var 3) (je_op jo_mod (je_op jo_div (je_var 6) je_int) (je_callB (jc_len rfl) (by rfl) T.n_len (by rfl) (ja_cons (je_var 3) ja_nil))) (fun _ _ => rfl)) je_int (fun _ _ => rfl)) (je_op jo_mod (je_op jo_div (je_var 6) je_int) je_int)) je_int))) jss_nil)
      (jss_one (js_appS 4 (je_ix rfl (JL.je (jl_lst (ja_cons (je_tup ja_nil) (ja_cons (je_tup (ja_cons (je_var 7) (ja_cons (je_op jo_mod (je_op jo_div (je_var 6) je_int) (je_op jo_pow je_int je_int)) ja_nil))) ja_nil)))) (je_callTy jc_int (by rfl) T.n_int (by rfl) (ja_cons (je_cmp jo_gt (je_op jo_mod (je_var 6) je_int) je_int (nomark _)) ja_nil)) (fun _ _ => rfl)) rfl))))))
    (jss_one (js_retO 4))))⟩
theorem hfn__law_disk : m__law_disk = runL 5 7 b__law_disk := rfl
theorem sc__law_disk : FnScope ["bounds", "height", "which", "shelf", "cell", "things", "areas"] ["bounds", "height", "which", "shelf", "cell"] (defScope s__law_disk) := ⟨rfl, rfl, rfl, by decide +kernel, rfl, by decide +kernel, by decide +kernel⟩
theorem ok__law_disk (D__law_disk : Def K mg "_law_disk" s__law_disk ["bounds", "height", "which", "shelf", "cell"]) (T : Txt K mg) (C__law_area : Callee P w K mg base 2 "_law_area" ["cell", "k", "size", "things"] (spL K 4 m__law_area)) (C__law_two : Callee P w K mg base 2 "_law_two" ["height"] (spF K 1 m__law_two)) : Callee P w K mg base 3 "_law_disk" ["bounds", "height", "which", "shelf", "cell"] (spL K 5 m__law_disk) := by
  refine Def.pureL (hfn__law_disk) D__law_disk sc__law_disk rfl rfl fun f cdv A outer s H E hr => ?_
  have hu := hu64 hr
  exact ⟨_, (jss_cons (js_setS (i := 5) sc__law_disk.nd rfl (Or.inr rfl) (JL.je (jl_comp ["thing"] [] rfl (ji_list rfl (je_var 3)) trivial (gk_name (by decide)) (fun _ _ _ _ => jg_name (i := 0) (show (["thing"] : List Str).Nodup by decide +kernel) rfl (Or.inl rfl) (Or.inr rfl)) (fun _ _ _ _ => (jts_one (jt_cmp (jo_ne rfl hu) (je_var 0) (je_tup ja_nil) (nomark _)))) (fun _ _ _ _ => (je_var 0)) rfl (by decide) (by decide) (nofree (by decide)))))
    (jss_cons (js_setCompV (i := 6) vL pv_L ["k"] [(4, "cell"), (5, "things"), (0, "bounds")] sc__law_disk.nd rfl (Or.inl rfl) rfl (ji_range1 rfl T.n_range (ja_cons je_int ja_nil)) ⟨⟨rfl, Or.inl rfl, Or.inl rfl⟩, ⟨⟨rfl, Or.inl rfl, Or.inl rfl⟩, ⟨⟨rfl, Or.inl rfl, Or.inl rfl⟩, trivial⟩⟩⟩ (gk_name (by decide)) (fun _ _ _ _ => jg_name (i := 0) (show (["k", "cell", "things", "bounds"] : List Str).Nodup by decide +kernel) rfl (Or.inl rfl) (Or.inr rfl)) (fun _ _ _ _ => jts_nil) (fun _ _ _ _ => (JL.je (jl_callC C__law_area (takesL _ _ _) hr rfl (ja_cons (je_var 1) (ja_cons (je_var 0) (ja_cons (je_op jo_mul (je_callC C__law_two (takesF _ _ _) hr rfl (ja_cons (je_ix rfl (je_var 3) je_int (fun _ _ => rfl)) ja_nil)) (je_ix rfl (je_var 3) je_int (fun _ _ => rfl))) (ja_cons (je_var 2) ja_nil))))))) rfl (by decide) (by decide) (by rfl) (by rfl))
    (jss_cons (js_setILS 6 (jl_cat rfl (je_var 3) (JL.je (jl_slice rfl (je_ix rfl (je_var 6) (je_var 2) (fun _ _ => rfl)) (jo_some (je_callB (jc_len rfl) (by rfl) T.n_len (by rfl) (ja_cons (je_var 3) ja_nil))) jo_none))) (je_var 2))
    (jss_one (js_retL (jl_lst (ja_cons (je_ix rfl (je_var 6) je_int (fun _ _ => rfl)) (ja_cons (je_ix rfl (je_var 6) je_int (fun _ _ => rfl)) (ja_cons (JL.je (jl_lst (ja_cons (je_tup (ja_cons (je_var 2) (ja_cons (je_var 1) ja_nil))) ja_nil))) ja_nil)))))))))⟩
theorem hfn__law_cap : m__law_cap = runF 2 2 b__law_cap := rfl
theorem sc__law_cap : FnScope ["bounds", "height"] ["bounds", "height"] (defScope s__law_cap) := ⟨rfl, rfl, rfl, by decide +kernel, rfl, by decide +kernel, by decide +kernel⟩
theorem ok__law_cap (D__law_cap : Def K mg "_law_cap" s__law_cap ["bounds", "height"]) (T : Txt K mg) (C__law_two : Callee P w K mg base 1 "_law_two" ["height"] (spF K 1 m__law_two)) : Callee P w K mg base 2 "_law_cap" ["bounds", "height"] (spF K 2 m__law_cap) := by
  refine Def.pureF (hfn__law_cap) D__law_cap sc__law_cap rfl rfl fun f cdv A outer s H E hr => ?_
  have hu := hu64 hr
  exact ⟨_, (jss_one (js_ret (je_op jo_mul (je_callC C__law_two (takesF _ _ _) hr rfl (ja_cons (je_var 1) ja_nil)) (je_op jo_sub (je_ix rfl (je_var 0) je_int (fun _ _ => rfl)) (je_op jo_mul (je_var 1) (je_ix rfl (je_var 0) je_int (fun _ _ => rfl)))))))⟩
theorem hfn__law_doubled : m__law_doubled = runL 2 7 b__law_doubled := rfl
theorem sc__law_doubled : FnScope ["shelf", "cell", "slab", "full", "here", "free", "place"] ["shelf", "cell"] (defScope s__law_doubled) := ⟨rfl, rfl, rfl, by decide +kernel, rfl, by decide +kernel, by decide +kernel⟩
theorem ok__law_doubled (D__law_doubled : Def K mg "_law_doubled" s__law_doubled ["shelf", "cell"]) (T : Txt K mg)  : Callee P w K mg base 1 "_law_doubled" ["shelf", "cell"] (spL K 2 m__law_doubled) := by
  refine Def.pureL (hfn__law_doubled) D__law_doubled sc__law_doubled rfl rfl fun f cdv A outer s H E hr => ?_
  have hu := hu64 hr
  exact ⟨_, (jss_cons (js_setL (i := 2) sc__law_doubled.nd rfl (Or.inl rfl) (jl_callTy (jc_list rfl) (by rfl) T.n_list (by rfl) (ja_cons (je_var 0) ja_nil)))
    (jss_cons (js_setCompV (i := 3) vSL pv_SL ["place"] [(0, "shelf")] sc__law_doubled.nd rfl (Or.inl rfl) rfl (ji_range1 rfl T.n_range (ja_cons (je_callB (jc_len rfl) (by rfl) T.n_len (by rfl) (ja_cons (je_var 0) ja_nil)) ja_nil)) ⟨⟨rfl, Or.inl rfl, Or.inl rfl⟩, trivial⟩ (gk_name (by decide)) (fun _ _ _ _ => jg_name (i := 0) (show (["place", "shelf"] : List Str).Nodup by decide +kernel) rfl (Or.inl rfl) (Or.inr rfl)) (fun _ _ _ _ => (jts_one (jt_cmp (jo_ne rfl hu) (je_ix rfl (je_var 1) (je_var 0) (fun _ _ => rfl)) (je_tup ja_nil) (nomark _)))) (fun _ _ _ _ => (je_var 0)) rfl (by decide) (by decide) (by rfl) (by rfl))
    (jss_cons (js_if (jt_cmp (jo_eq rfl hu) (je_var 3) (JL.je (jl_lst ja_nil)) (nomark _))
      (jss_one (js_retO 2)) jss_nil)
    (jss_cons (js_setS (i := 4) sc__law_doubled.nd rfl (Or.inl rfl) (je_ix rfl (je_var 3) (je_op jo_mod (je_var 1) (je_callB (jc_len rfl) (by rfl) T.n_len (by rfl) (ja_cons (je_var 3) ja_nil))) (fun _ _ => rfl)))
    (jss_cons (js_setL (i := 5) sc__law_doubled.nd rfl (Or.inl rfl) (jl_lst (ja_cons (je_var 4) ja_nil)))
    (jss_cons (js_setS (i := 6) sc__law_doubled.nd rfl (Or.inl rfl) (je_op jo_sub (je_op jo_add (je_var 4) je_int) (je_op jo_mul je_int (je_op jo_mod (je_op jo_div (je_var 1) je_int) je_int))))
    (jss_cons (js_while 1000000 PassesOwn.never (JW.jt (jw_and (jt_chain jo_le jo_lt je_int (je_var 6) (je_callB (jc_len rfl) (by rfl) T.n_len (by rfl) (ja_cons (je_var 0) ja_nil))) (jw_and1 (jt_cmp (jo_eq rfl hu) (je_ix rfl (je_var 0) (je_var 6) (fun _ _ => rfl)) (je_tup ja_nil) (nomark _)))))
      (jss_cons (js_appS 5 (je_var 6) rfl)
      (jss_one (js_setS (i := 6) sc__law_doubled.nd rfl (Or.inl rfl) (je_op jo_sub (je_op jo_add (je_var 6) je_int) (je_op jo_mul je_int (je_op jo_mod (je_op jo_div (je_var 1) je_int) je_int)))))))
    (jss_cons (js_setIS 2 (je_ix rfl (je_var 0) (je_var 4) (fun _ _ => rfl)) (je_ix rfl (je_var 5) (je_op jo_mod (je_op jo_div (je_var 1) je_int) (je_callB (jc_len rfl) (by rfl) T.n_len (by rfl) (ja_cons (je_var 5) ja_nil))) (fun _ _ => rfl)))
    (jss_one (js_retO 2))))))))))⟩
theorem hfn__law_place : m__law_place = runN 2 6 b__law_place := rfl
theorem sc__law_place : FnScope ["disk", "number", "bad", "area", "at", "odd"] ["disk", "number"] (defScope s__law_place) := ⟨rfl, rfl, rfl, by decide +kernel, rfl, by decide +kernel, by decide +kernel⟩
theorem ok__law_place (D__law_place : Def K mg "_law_place" s__law_place ["disk", "number"]) (T : Txt K mg)  : Callee P w K mg base 1 "_law_place" ["disk", "number"] (spN K 2 m__law_place) := by
  refine Def.pureN (hfn__law_place) D__law_place sc__law_place rfl rfl fun f cdv A outer s H E hr => ?_
  have hu := hu64 hr
  exact ⟨_, (jss_cons (js_setCompN (i := 2) ["part"] [] sc__law_place.nd rfl (Or.inl rfl) rfl (ji_list rfl (je_var 0)) trivial (gk_name (by decide)) (fun _ _ _ _ => jg_name (i := 0) (show (["part"] : List Str).Nodup by decide +kernel) rfl (Or.inl rfl) (Or.inr rfl)) (fun _ _ _ _ => jts_nil) (fun _ _ _ _ => (jl_callTy (jc_list rfl) (by rfl) T.n_list (by rfl) (ja_cons (je_var 0) ja_nil))) rfl (by decide) (by decide) (nofree (by decide)) (by rfl))
    (jss_cons (js_setS (i := 3) sc__law_place.nd rfl (Or.inl rfl) (je_op jo_mod (je_var 1) je_int))
    (jss_cons (js_setF (i := 4) sc__law_place.nd rfl (Or.inl rfl) (je_op jo_mod (je_op jo_div (je_var 1) je_int) (je_callB (jc_len rfl) (by rfl) T.n_len (by rfl) (ja_cons (je_ix rfl (je_var 2) (je_var 3) (fun _ _ => rfl)) ja_nil))))
    (jss_cons (js_setS (i := 5) sc__law_place.nd rfl (Or.inl rfl) (JL.je (jl_lst (ja_cons je_non (ja_cons je_int (ja_cons je_str (ja_cons je_str (ja_cons (JL.je (jl_lst ja_nil)) (ja_cons (JL.je (jl_lst (ja_cons je_int (ja_cons je_int ja_nil)))) (ja_cons (je_tup (ja_cons je_int ja_nil)) (ja_cons (je_tup (ja_cons je_int (ja_cons je_int (ja_cons je_int ja_nil)))) (ja_cons (je_tup (ja_cons je_bl (ja_cons je_int ja_nil))) (ja_cons (je_tup (ja_cons je_int (ja_cons je_bl ja_nil))) (ja_cons (je_tup (ja_cons je_int (ja_cons je_str ja_nil))) (ja_cons (je_tup (ja_cons je_non (ja_cons je_int ja_nil))) (ja_cons (je_tup (ja_cons (je_tup ja_nil) (ja_cons (je_tup ja_nil) ja_nil))) ja_nil))))))))))))))))
    (jss_cons (js_setIIS 2 (je_ix rfl (je_var 5) (je_op jo_mod (je_op jo_div (je_var 1) je_int) je_int) (fun _ _ => rfl)) rfl (je_var 3) (je_var 4) (fun _ _ => rfl))
    (jss_one (js_retON 2)))))))⟩
theorem hfn__law_sign : m__law_sign = runL 3 7 b__law_sign := rfl
theorem sc__law_sign : FnScope ["bounds", "disk", "number", "bad", "which", "height", "odd"] ["bounds", "disk", "number"] (defScope s__law_sign) := ⟨rfl, rfl, rfl, by decide +kernel, rfl, by decide +kernel, by decide +kernel⟩
theorem ok__law_sign (D__law_sign : Def K mg "_law_sign" s__law_sign ["bounds", "disk", "number"]) (T : Txt K mg)  : Callee P w K mg base 1 "_law_sign" ["bounds", "disk", "number"] (spL K 3 m__law_sign) := by
  refine Def.pureL (hfn__law_sign) D__law_sign sc__law_sign rfl rfl fun f cdv A outer s H E hr => ?_
  have hu := hu64 hr
  exact ⟨_, (jss_cons (js_setCompV (i := 3) vL pv_L ["part"] [] sc__law_sign.nd rfl (Or.inl rfl) rfl (ji_list rfl (je_var 1)) trivial (gk_name (by decide)) (fun _ _ _ _ => jg_name (i := 0) (show (["part"] : List Str).Nodup by decide +kernel) rfl (Or.inl rfl) (Or.inr rfl)) (fun _ _ _ _ => jts_nil) (fun _ _ _ _ => (JL.je (jl_callTy (jc_list rfl) (by rfl) T.n_list (by rfl) (ja_cons (je_var 0) ja_nil)))) rfl (by decide) (by decide) (nofree (by decide)) (by rfl))
    (jss_cons (js_asgS (je_ix rfl (je_ix rfl (je_var 1) je_int (fun _ _ => rfl)) je_int (fun _ _ => rfl)) (jgs_two (i := 4) (j := 5) rfl rfl sc__law_sign.nd rfl (Or.inl rfl) rfl (Or.inl rfl)))
    (jss_cons (js_setS (i := 6) sc__law_sign.nd rfl (Or.inl rfl) (JL.je (jl_lst (ja_cons (JL.je (jl_lst ja_nil)) (ja_cons (JL.je (jl_lst (ja_cons (je_tup (ja_cons (je_var 4) (ja_cons (je_var 5) ja_nil))) (ja_cons (je_tup (ja_cons (je_var 4) (ja_cons (je_var 5) ja_nil))) ja_nil)))) (ja_cons (JL.je (jl_lst (ja_cons (JL.je (jl_lst (ja_cons (je_var 4) (ja_cons (je_var 5) ja_nil)))) ja_nil))) (ja_cons (JL.je (jl_lst (ja_cons (je_tup (ja_cons (je_var 4) ja_nil)) ja_nil))) (ja_cons (JL.je (jl_lst (ja_cons (je_tup (ja_cons je_int (ja_cons (je_var 5) ja_nil))) ja_nil))) (ja_cons (JL.je (jl_lst (ja_cons (je_tup (ja_cons (je_neg je_int) (ja_cons (je_var 5) ja_nil))) ja_nil))) ja_nil)))))))))
    (jss_cons (js_setS (i := 6) sc__law_sign.nd rfl (Or.inl rfl) (JL.je (jl_cat rfl (je_var 6) (JL.je (jl_lst (ja_cons (JL.je (jl_lst (ja_cons (je_tup (ja_cons (je_var 4) (ja_cons (je_op jo_add (je_ix rfl (je_var 0) je_int (fun _ _ => rfl)) je_int) ja_nil))) ja_nil))) (ja_cons (JL.je (jl_lst (ja_cons (je_tup (ja_cons (je_var 4) (ja_cons (je_neg je_int) ja_nil))) ja_nil))) (ja_cons (JL.je (jl_lst (ja_cons (je_tup (ja_cons (je_callTy jc_bool (by rfl) T.n_bool (by rfl) (ja_cons (je_var 4) ja_nil)) (ja_cons (je_var 5) ja_nil))) ja_nil))) (ja_cons (JL.je (jl_lst (ja_cons je_non ja_nil))) (ja_cons (je_tup (ja_cons (je_tup (ja_cons (je_var 4) (ja_cons (je_var 5) ja_nil))) ja_nil)) (ja_cons je_dict0 ja_nil)))))))))))
    (jss_cons (js_setIS 3 (je_ix rfl (JL.je (jl_cat rfl (je_var 6) (JL.je (jl_lst (ja_cons (JL.je (jl_lst (ja_cons (je_tup (ja_cons (je_var 4) (ja_cons je_bl ja_nil))) ja_nil))) ja_nil))))) (je_op jo_mod (je_var 2) je_int) (fun _ _ => rfl)) je_int)
    (jss_one (js_retO 3)))))))⟩
theorem hfn__law_shape : m__law_shape = runF 2 4 b__law_shape := rfl
theorem sc__law_shape : FnScope ["disk", "number", "bad", "area"] ["disk", "number"] (defScope s__law_shape) := ⟨rfl, rfl, rfl, by decide +kernel, rfl, by decide +kernel, by decide +kernel⟩
theorem ok__law_shape (D__law_shape : Def K mg "_law_shape" s__law_shape ["disk", "number"]) (T : Txt K mg)  : Callee P w K mg base 1 "_law_shape" ["disk", "number"] (spF K 2 m__law_shape) := by
  refine Def.pureF (hfn__law_shape) D__law_shape sc__law_shape rfl rfl fun f cdv A outer s H E hr => ?_
  have hu := hu64 hr
  exact ⟨_, (jss_cons (js_setCompV (i := 2) vL pv_L ["part"] [] sc__law_shape.nd rfl (Or.inl rfl) rfl (ji_list rfl (je_var 0)) trivial (gk_name (by decide)) (fun _ _ _ _ => jg_name (i := 0) (show (["part"] : List Str).Nodup by decide +kernel) rfl (Or.inl rfl) (Or.inr rfl)) (fun _ _ _ _ => jts_nil) (fun _ _ _ _ => (JL.je (jl_callTy (jc_list rfl) (by rfl) T.n_list (by rfl) (ja_cons (je_var 0) ja_nil)))) rfl (by decide) (by decide) (nofree (by decide)) (by rfl))
    (jss_cons (js_setS (i := 3) sc__law_shape.nd rfl (Or.inl rfl) (je_op jo_mod (je_op jo_div (je_var 1) je_int) je_int))
    (jss_cons (js_if (jt_cmp jo_lt (je_op jo_mod (je_var 1) je_int) je_int (nomark _))
      (jss_one (js_ret (je_ix rfl (JL.je (jl_lst (ja_cons je_non (ja_cons je_int (ja_cons (je_callTy (jc_tuple rfl) (by rfl) T.n_tuple (by rfl) (ja_cons (je_var 2) ja_nil)) (ja_cons (JL.je (jl_slice rfl (je_var 2) jo_none (jo_some je_int))) (ja_cons (JL.je (jl_cat rfl (je_var 2) (JL.je (jl_lst (ja_cons (JL.je (jl_lst ja_nil)) ja_nil))))) ja_nil))))))) (je_op jo_mod (je_var 1) je_int) (fun _ _ => rfl)))) jss_nil)
    (jss_cons (js_if (jt_cmp (jo_eq rfl hu) (je_op jo_mod (je_var 1) je_int) je_int (nomark _))
      (jss_one (js_setILS 2 (jl_cat rfl (je_ix rfl (je_var 2) (je_var 3) (fun _ _ => rfl)) (JL.je (jl_lst (ja_cons (je_tup ja_nil) ja_nil)))) (je_var 3))) jss_nil)
    (jss_cons (js_if (jt_cmp (jo_eq rfl hu) (je_op jo_mod (je_var 1) je_int) je_int (nomark _))
      (jss_one (js_setILS 2 (jl_slice rfl (je_ix rfl (je_var 2) (je_var 3) (fun _ _ => rfl)) jo_none (jo_some (je_neg je_int))) (je_var 3))) jss_nil)
    (jss_cons (js_if (jt_cmp jo_gt (je_op jo_mod (je_var 1) je_int) je_int (nomark _))
      (jss_one (js_setIF 2 (je_ix rfl (JL.je (jl_lst (ja_cons (je_callTy (jc_tuple rfl) (by rfl) T.n_tuple (by rfl) (ja_cons (je_ix rfl (je_var 2) (je_var 3) (fun _ _ => rfl)) ja_nil)) (ja_cons je_non ja_nil)))) (je_op jo_sub (je_op jo_mod (je_var 1) je_int) je_int) (fun _ _ => rfl)) (je_var 3))) jss_nil)
    (jss_one (js_ret (je_var 2)))))))))⟩
theorem hfn__law_crowded : m__law_crowded = runL 4 8 b__law_crowded := rfl
theorem sc__law_crowded : FnScope ["bounds", "height", "cell", "way", "shelf", "things", "free", "row"] ["bounds", "height", "cell", "way"] (defScope s__law_crowded) := ⟨rfl, rfl, rfl, by decide +kernel, rfl, by decide +kernel, by decide +kernel⟩
theorem ok__law_crowded (D__law_crowded : Def K mg "_law_crowded" s__law_crowded ["bounds", "height", "cell", "way"]) (T : Txt K mg) (C__law_cap : Callee P w K mg base 2 "_law_cap" ["bounds", "height"] (spF K 2 m__law_cap)) (C__law_filled : Callee P w K mg base 2 "_law_filled" ["bounds", "height", "cell", "many"] (spL K 4 m__law_filled)) : Callee P w K mg base 3 "_law_crowded" ["bounds", "height", "cell", "way"] (spL K 4 m__law_crowded) := by
  refine Def.pureL (hfn__law_crowded) D__law_crowded sc__law_crowded rfl rfl fun f cdv A outer s H E hr => ?_
  have hu := hu64 hr
  exact ⟨_, (jss_cons (js_setS (i := 4) sc__law_crowded.nd rfl (Or.inr rfl) (JL.je (jl_callC C__law_filled (takesL _ _ _) hr rfl (ja_cons (je_var 0) (ja_cons (je_var 1) (ja_cons (je_var 2) (ja_cons (je_op jo_sub (je_callC C__law_cap (takesF _ _ _) hr rfl (ja_cons (je_var 0) (ja_cons (je_var 1) ja_nil))) je_int) ja_nil)))))))
    (jss_cons (js_setCompV (i := 5) vSL pv_SL ["thing"] [] sc__law_crowded.nd rfl (Or.inl rfl) rfl (ji_list rfl (je_var 4)) trivial (gk_name (by decide)) (fun _ _ _ _ => jg_name (i := 0) (show (["thing"] : List Str).Nodup by decide +kernel) rfl (Or.inl rfl) (Or.inr rfl)) (fun _ _ _ _ => (jts_one (jt_cmp (jo_ne rfl hu) (je_var 0) (je_tup ja_nil) (nomark _)))) (fun _ _ _ _ => (je_var 0)) rfl (by decide) (by decide) (nofree (by decide)) (by rfl))
    (jss_cons (js_setCompV (i := 6) vSL pv_SL ["place"] [(4, "shelf")] sc__law_crowded.nd rfl (Or.inl rfl) rfl (ji_range1 rfl T.n_range (ja_cons (je_callB (jc_len rfl) (by rfl) T.n_len (by rfl) (ja_cons (je_var 4) ja_nil)) ja_nil)) ⟨⟨rfl, Or.inl rfl, Or.inl rfl⟩, trivial⟩ (gk_name (by decide)) (fun _ _ _ _ => jg_name (i := 0) (show (["place", "shelf"] : List Str).Nodup by decide +kernel) rfl (Or.inl rfl) (Or.inr rfl)) (fun _ _ _ _ => (jts_one (jt_cmp (jo_eq rfl hu) (je_ix rfl (je_var 1) (je_var 0) (fun _ _ => rfl)) (je_tup ja_nil) (nomark _)))) (fun _ _ _ _ => (je_var 0)) rfl (by decide) (by decide) (by rfl) (by rfl))
    (jss_cons (js_if (JW.jt (jw_and (jt_cmp (jo_eq rfl hu) (je_var 3) je_int (nomark _)) (jw_and1 (jt_cmp jo_gt (je_var 1) je_int (nomark _)))))
      (jss_one (js_retL (jl_callC C__law_filled (takesL _ _ _) hr rfl (ja_cons (je_var 0) (ja_cons (je_var 1) (ja_cons (je_var 2) (ja_cons (je_op jo_add (je_callC C__law_cap (takesF _ _ _) hr rfl (ja_cons (je_var 0) (ja_cons (je_var 1) ja_nil))) je_int) ja_nil))))))) jss_nil)
    (jss_cons (js_if (jt_cmp (jo_eq rfl hu) (je_var 5) (JL.je (jl_lst ja_nil)) (nomark _))
      (jss_one (js_setS (i := 5) sc__law_crowded.nd rfl (Or.inl rfl) (JL.je (jl_lst (ja_cons (je_tup (ja_cons je_int (ja_cons je_int ja_nil))) ja_nil))))) jss_nil)
    (jss_cons (js_setS (i := 7) sc__law_crowded.nd rfl (Or.inl rfl) (je_ix rfl (JL.je (jl_lst (ja_cons (JL.je (jl_cat rfl (je_var 5) (JL.je (jl_lst (ja_cons (je_ix rfl (je_var 5) (je_neg je_int) (fun _ _ => rfl)) (ja_cons (je_ix rfl (je_var 5) (je_neg je_int) (fun _ _ => rfl)) ja_nil)))))) (ja_cons (JL.je (jl_cat rfl (je_var 5) (JL.je (jl_lst (ja_cons (je_tup (ja_cons (je_ix rfl (je_ix rfl (je_var 5) (je_neg je_int) (fun _ _ => rfl)) je_int (fun _ _ => rfl)) (ja_cons (je_op jo_add (je_ix rfl (je_ix rfl (je_var 5) (je_neg je_int) (fun _ _ => rfl)) je_int (fun _ _ => rfl)) je_int) ja_nil))) ja_nil))))) ja_nil)))) (je_op jo_mod (je_var 3) je_int) (fun _ _ => rfl)))
    (jss_cons (js_if (JW.jt (jw_and (jt_cmp (jo_eq rfl hu) (je_var 3) je_int (nomark _)) (jw_and1 (jt_cmp jo_gt (je_callB (jc_len rfl) (by rfl) T.n_len (by rfl) (ja_cons (je_var 5) ja_nil)) je_int (nomark _)))))
      (jss_one (js_setS (i := 7) sc__law_crowded.nd rfl (Or.inl rfl) (JL.je (jl_cat rfl (JL.je (jl_cat rfl (JL.je (jl_lst (ja_cons (je_ix rfl (je_var 5) je_int (fun _ _ => rfl)) (ja_cons (je_ix rfl (je_var 5) je_int (fun _ _ => rfl)) ja_nil)))) (JL.je (jl_slice rfl (je_var 5) (jo_some je_int) jo_none)))) (JL.je (jl_lst (ja_cons (je_ix rfl (je_var 5) (je_neg je_int) (fun _ _ => rfl)) ja_nil))))))) jss_nil)
    (jss_cons (js_if (jt_cmp (jo_eq rfl hu) (je_var 3) je_int (nomark _))
      (jss_one (js_setS (i := 7) sc__law_crowded.nd rfl (Or.inl rfl) (JL.je (jl_cat rfl (je_var 5) (JL.je (jl_lst (ja_cons (je_tup (ja_cons (je_op jo_sub (je_ix rfl (je_ix rfl (je_var 5) je_int (fun _ _ => rfl)) je_int (fun _ _ => rfl)) je_int) (ja_cons je_int ja_nil))) ja_nil))))))) jss_nil)
    (jss_one (js_retL (jl_cat rfl (je_var 7) (JL.je (jl_comp ["place"] [] rfl (ji_range1 rfl T.n_range (ja_cons (je_op jo_sub (je_callB (jc_len rfl) (by rfl) T.n_len (by rfl) (ja_cons (je_var 4) ja_nil)) (je_callB (jc_len rfl) (by rfl) T.n_len (by rfl) (ja_cons (je_var 7) ja_nil))) ja_nil)) trivial (gk_name (by decide)) (fun _ _ _ _ => jg_name (i := 0) (show (["place"] : List Str).Nodup by decide +kernel) rfl (Or.inl rfl) (Or.inr rfl)) (fun _ _ _ _ => jts_nil) (fun _ _ _ _ => (je_tup ja_nil)) rfl (by decide) (by decide) (nofree (by decide)))))))))))))))⟩
theorem hfn__law_wrong : m__law_wrong = runF 3 6 b__law_wrong := rfl
theorem sc__law_wrong : FnScope ["bounds", "disk", "cell", "way", "which", "height"] ["bounds", "disk", "cell"] (defScope s__law_wrong) := ⟨rfl, rfl, rfl, by decide +kernel, rfl, by decide +kernel, by decide +kernel⟩
theorem ok__law_wrong (D__law_wrong : Def K mg "_law_wrong" s__law_wrong ["bounds", "disk", "cell"]) (T : Txt K mg) (C__law_crowded : Callee P w K mg base 3 "_law_crowded" ["bounds", "height", "cell", "way"] (spL K 4 m__law_crowded)) (C__law_disk : Callee P w K mg base 3 "_law_disk" ["bounds", "height", "which", "shelf", "cell"] (spL K 5 m__law_disk)) (C__law_place : Callee P w K mg base 3 "_law_place" ["disk", "number"] (spN K 2 m__law_place)) (C__law_shape : Callee P w K mg base 3 "_law_shape" ["disk", "number"] (spF K 2 m__law_shape)) (C__law_sign : Callee P w K mg base 3 "_law_sign" ["bounds", "disk", "number"] (spL K 3 m__law_sign)) : Callee P w K mg base 4 "_law_wrong" ["bounds", "disk", "cell"] (spF K 3 m__law_wrong) := by
  refine Def.pureF (hfn__law_wrong) D__law_wrong sc__law_wrong rfl rfl fun f cdv A outer s H E hr => ?_
  have hu := hu64 hr
  exact ⟨_, (jss_cons (js_setS (i := 3) sc__law_wrong.nd rfl (Or.inl rfl) (je_op jo_mod (je_var 2) je_int))
    (jss_cons (js_if (jt_cmp (jo_eq rfl hu) (je_var 3) je_int (nomark _))
      (jss_one (js_ret (je_callC C__law_shape (takesF _ _ _) hr rfl (ja_cons (je_var 1) (ja_cons (je_op jo_div (je_var 2) je_int) ja_nil))))) jss_nil)
    (jss_cons (js_if (jt_cmp (jo_eq rfl hu) (je_var 3) je_int (nomark _))
      (jss_one (js_ret (JL.je (jl_callC C__law_sign (takesL _ _ _) hr rfl (ja_cons (je_var 0) (ja_cons (je_var 1) (ja_cons (je_op jo_div (je_var 2) je_int) ja_nil))))))) jss_nil)
    (jss_cons (js_if (jt_cmp jo_lt (je_var 3) je_int (nomark _))
      (jss_one (js_ret (JL.je (JN.jl (jn_callC C__law_place (takesN _ _ _) hr rfl (ja_cons (je_var 1) (ja_cons (je_op jo_div (je_var 2) je_int) ja_nil))))))) jss_nil)
    (jss_cons (js_asgS (je_ix rfl (je_ix rfl (je_var 1) je_int (fun _ _ => rfl)) je_int (fun _ _ => rfl)) (jgs_two (i := 4) (j := 5) rfl rfl sc__law_wrong.nd rfl (Or.inl rfl) rfl (Or.inl rfl)))
    (jss_one (js_ret (JL.je (jl_callC C__law_disk (takesL _ _ _) hr rfl (ja_cons (je_var 0) (ja_cons (je_var 5) (ja_cons (je_var 4) (ja_cons (JL.je (jl_callC C__law_crowded (takesL _ _ _) hr rfl (ja_cons (je_var 0) (ja_cons (je_var 5) (ja_cons (je_var 2) (ja_cons (je_ix rfl (JL.je (jl_lst (ja_cons (je_op jo_sub (je_var 3) je_int) (ja_cons je_int ja_nil)))) (je_op jo_mod (je_op jo_div (je_var 2) je_int) je_int) (fun _ _ => rfl)) ja_nil)))))) (ja_cons (je_var 2) ja_nil))))))))))))))⟩
theorem hfn_law : m_law = runF 1 7 b_law := rfl
theorem sc_law : FnScope ["script", "bounds", "cell", "height", "shelf", "disk", "handed"] ["script"] (defScope s_law) := ⟨rfl, rfl, rfl, by decide +kernel, rfl, by decide +kernel, by decide +kernel⟩
theorem ok_law (D_law : Def K mg "law" s_law ["script"]) (T : Txt K mg) (C__law_bounds : Callee P w K mg base 6 "_law_bounds" ["cell"] (spF K 1 m__law_bounds)) (C__law_cap : Callee P w K mg base 6 "_law_cap" ["bounds", "height"] (spF K 2 m__law_cap)) (C__law_cell : Callee P w K mg base 6 "_law_cell" ["script", "k"] (spF K 2 m__law_cell)) (C__law_disk : Callee P w K mg base 6 "_law_disk" ["bounds", "height", "which", "shelf", "cell"] (spL K 5 m__law_disk)) (C__law_doubled : Callee P w K mg base 6 "_law_doubled" ["shelf", "cell"] (spL K 2 m__law_doubled)) (C__law_filled : Callee P w K mg base 6 "_law_filled" ["bounds", "height", "cell", "many"] (spL K 4 m__law_filled)) (C__law_spread : Callee P w K mg base 6 "_law_spread" ["cell"] (spF K 1 m__law_spread)) (C__law_wrong : Callee P w K mg base 6 "_law_wrong" ["bounds", "disk", "cell"] (spF K 3 m__law_wrong)) (C_is_disk : Callee P w K mg base 6 "is_disk" ["bounds", "thing"] (spF K 2 m_is_disk)) : Callee P w K mg base 7 "law" ["script"] (spF K 1 m_law) := by
  refine Def.pureF (hfn_law) D_law sc_law rfl rfl fun f cdv A outer s H E hr => ?_
  have hu := hu64 hr
  exact ⟨_, (jss_cons (js_setS (i := 1) sc_law.nd rfl (Or.inl rfl) (je_callC C__law_bounds (takesF _ _ _) hr rfl (ja_cons (je_callC C__law_cell (takesF _ _ _) hr rfl (ja_cons (je_var 0) (ja_cons je_int ja_nil))) ja_nil)))
    (jss_cons (js_for PassesOwn.never rfl (ji_list rfl (JL.je (jl_comp ["one"] [] rfl (ji_list rfl (JL.je (jl_cat rfl (JL.je (jl_lst (ja_cons je_int ja_nil))) (JL.je (jl_slice rfl (je_var 0) (jo_some je_int) (jo_some je_int)))))) trivial (gk_name (by decide)) (fun _ _ _ _ => jg_name (i := 0) (show (["one"] : List Str).Nodup by decide +kernel) rfl (Or.inl rfl) (Or.inr rfl)) (fun _ _ _ _ => jts_nil) (fun _ _ _ _ => (je_callC C__law_spread (takesF _ _ _) hr rfl (ja_cons (je_var 0) ja_nil))) rfl (by decide) (by decide) (nofree (by decide))))) (jgs_name (i := 2) sc_law.nd rfl (Or.inl rfl))
      (jss_cons (js_setS (i := 3) sc_law.nd rfl (Or.inl rfl) (je_op jo_mod (je_op jo_div (je_var 2) je_int) (je_op jo_add (je_ix rfl (je_var 1) je_int (fun _ _ => rfl)) je_int)))
      (jss_cons (js_setS (i := 4) sc_law.nd rfl (Or.inl rfl) (JL.je (jl_callC C__law_filled (takesL _ _ _) hr rfl (ja_cons (je_var 1) (ja_cons (je_var 3) (ja_cons (je_var 2) (ja_cons (je_op jo_sub (je_callC C__law_cap (takesF _ _ _) hr rfl (ja_cons (je_var 1) (ja_cons (je_var 3) ja_nil))) (je_op jo_mod (je_op jo_div (je_var 2) je_int) je_int)) ja_nil)))))))
      (jss_cons (js_if (jt_cmp (jo_eq rfl hu) (je_op jo_mod (je_op jo_div (je_var 2) je_int) je_int) je_int (nomark _))
        (jss_one (js_setS (i := 4) sc_law.nd rfl (Or.inl rfl) (JL.je (jl_callC C__law_doubled (takesL _ _ _) hr rfl (ja_cons (je_var 4) (ja_cons (je_op jo_div (je_var 2) je_int) ja_nil)))))) jss_nil)
      (jss_cons (js_setS (i := 5) sc_law.nd rfl (Or.inl rfl) (JL.je (jl_callC C__law_disk (takesL _ _ _) hr rfl (ja_cons (je_var 1) (ja_cons (je_var 3) (ja_cons (je_op jo_mod (je_op jo_div (je_var 2) je_int) je_int) (ja_cons (je_var 4) (ja_cons (je_var 2) ja_nil))))))))
      (jss_cons (js_setCompV (i := 6) vSL pv_SL ["part"] [] sc_law.nd rfl (Or.inl rfl) rfl (ji_list rfl (je_var 5)) trivial (gk_name (by decide)) (fun _ _ _ _ => jg_name (i := 0) (show (["part"] : List Str).Nodup by decide +kernel) rfl (Or.inl rfl) (Or.inr rfl)) (fun _ _ _ _ => jts_nil) (fun _ _ _ _ => (JL.je (jl_callTy (jc_list rfl) (by rfl) T.n_list (by rfl) (ja_cons (je_var 0) ja_nil)))) rfl (by decide) (by decide) (nofree (by decide)) (by rfl))
      (jss_cons (js_if (JW.jt (jw_or (jt_cmp jo_isnB (je_callC C_is_disk (takesF _ _ _) hr rfl (ja_cons (je_var 1) (ja_cons (je_var 6) ja_nil))) je_bl (nomark _)) (jw_or1 (jt_cmp (jo_ne rfl hu) (je_var 6) (je_var 5) (nomark _)))))
        (jss_one (js_ret je_bl)) jss_nil)
      (jss_one (js_if (jt_cmp jo_isnB (je_callC C_is_disk (takesF _ _ _) hr rfl (ja_cons (je_var 1) (ja_cons (je_callC C__law_wrong (takesF _ _ _) hr rfl (ja_cons (je_var 1) (ja_cons (je_var 5) (ja_cons (je_op jo_div (je_var 2) je_int) ja_nil)))) ja_nil))) je_bl (nomark _))
        (jss_one (js_ret je_bl)) jss_nil)))))))))
    (jss_one (js_ret je_bl))))⟩
theorem chain (T : Txt K mg) (hl : ∀ ns : List Int, ns.length ≤ 63 → m_law [.list (ns.map PyData.int)] = some (.bool true)) (D_is_whole : Def K mg "is_whole" s_is_whole ["thing"]) (D_twofold : Def K mg "twofold" s_twofold ["height"]) (D_places_of : Def K mg "places_of" s_places_of ["bounds", "height"]) (D_cap_of : Def K mg "cap_of" s_cap_of ["bounds", "height"]) (D_is_straight : Def K mg "is_straight" s_is_straight ["shelf"]) (D_is_sound : Def K mg "is_sound" s_is_sound ["shelf"]) (D_second_place : Def K mg "second_place" s_second_place ["shelf"]) (D_mended : Def K mg "mended" s_mended ["shelf"]) (D_rows_of : Def K mg "rows_of" s_rows_of ["shelf"]) (D_done : Def K mg "done" s_done ["shelf", "writes"]) (D_is_pair : Def K mg "is_pair" s_is_pair ["thing"]) (D_is_place : Def K mg "is_place" s_is_place ["thing"]) (D_is_area : Def K mg "is_area" s_is_area ["thing", "size"]) (D_is_sign : Def K mg "is_sign" s_is_sign ["bounds", "thing"]) (D_has_form : Def K mg "has_form" s_has_form ["bounds", "thing"]) (D_is_disk : Def K mg "is_disk" s_is_disk ["bounds", "thing"]) (D_area_on : Def K mg "area_on" s_area_on ["disk"]) (D_height_on : Def K mg "height_on" s_height_on ["disk"]) (D_shelf_on : Def K mg "shelf_on" s_shelf_on ["bounds", "disk"]) (D__law_cell : Def K mg "_law_cell" s__law_cell ["script", "k"]) (D__law_spread : Def K mg "_law_spread" s__law_spread ["cell"]) (D__law_mixed : Def K mg "_law_mixed" s__law_mixed ["cell", "k"]) (D__law_bounds : Def K mg "_law_bounds" s__law_bounds ["cell"]) (D__law_two : Def K mg "_law_two" s__law_two ["height"]) (D__law_filled : Def K mg "_law_filled" s__law_filled ["bounds", "height", "cell", "many"]) (D__law_area : Def K mg "_law_area" s__law_area ["cell", "k", "size", "things"]) (D__law_disk : Def K mg "_law_disk" s__law_disk ["bounds", "height", "which", "shelf", "cell"]) (D__law_cap : Def K mg "_law_cap" s__law_cap ["bounds", "height"]) (D__law_doubled : Def K mg "_law_doubled" s__law_doubled ["shelf", "cell"]) (D__law_place : Def K mg "_law_place" s__law_place ["disk", "number"]) (D__law_sign : Def K mg "_law_sign" s__law_sign ["bounds", "disk", "number"]) (D__law_shape : Def K mg "_law_shape" s__law_shape ["disk", "number"]) (D__law_crowded : Def K mg "_law_crowded" s__law_crowded ["bounds", "height", "cell", "way"]) (D__law_wrong : Def K mg "_law_wrong" s__law_wrong ["bounds", "disk", "cell"]) (D_law : Def K mg "law" s_law ["script"]) : Callee P w K mg base 7 "law" ["script"] (spLawP K) := by
  have C_is_whole : Callee P w K mg base 1 "is_whole" ["thing"] (spF K 1 m_is_whole) := ok_is_whole D_is_whole T
  have C_twofold : Callee P w K mg base 1 "twofold" ["height"] (spF K 1 m_twofold) := ok_twofold D_twofold T
  have C_places_of : Callee P w K mg base 2 "places_of" ["bounds", "height"] (spF K 2 m_places_of) := ok_places_of D_places_of T (C_twofold.mono (by decide))
  have C_cap_of : Callee P w K mg base 2 "cap_of" ["bounds", "height"] (spF K 2 m_cap_of) := ok_cap_of D_cap_of T (C_twofold.mono (by decide))
  have C_is_straight : Callee P w K mg base 1 "is_straight" ["shelf"] (spF K 1 m_is_straight) := ok_is_straight D_is_straight T
  have C_done : Callee P w K mg base 1 "done" ["shelf", "writes"] (spL K 2 m_done) := ok_done D_done T
  have C_second_place : Callee P w K mg base 1 "second_place" ["shelf"] (spF K 1 m_second_place) := ok_second_place D_second_place T
  have C_mended : Callee P w K mg base 2 "mended" ["shelf"] (spL K 1 m_mended) := ok_mended D_mended T (C_done.mono (by decide)) (C_second_place.mono (by decide))
  have C_is_sound : Callee P w K mg base 3 "is_sound" ["shelf"] (spF K 1 m_is_sound) := ok_is_sound D_is_sound T (C_is_straight.mono (by decide)) (C_mended.mono (by decide))
  have C_rows_of : Callee P w K mg base 3 "rows_of" ["shelf"] (spL K 1 m_rows_of) := ok_rows_of D_rows_of T (C_mended.mono (by decide))
  have C_is_pair : Callee P w K mg base 2 "is_pair" ["thing"] (spF K 1 m_is_pair) := ok_is_pair D_is_pair T (C_is_whole.mono (by decide))
  have C_is_place : Callee P w K mg base 3 "is_place" ["thing"] (spF K 1 m_is_place) := ok_is_place D_is_place T (C_is_pair.mono (by decide))
  have C_is_area : Callee P w K mg base 4 "is_area" ["thing", "size"] (spF K 2 m_is_area) := ok_is_area D_is_area T (C_is_place.mono (by decide))
  have C_is_sign : Callee P w K mg base 3 "is_sign" ["bounds", "thing"] (spF K 2 m_is_sign) := ok_is_sign D_is_sign T (C_is_pair.mono (by decide))
  have C_has_form : Callee P w K mg base 5 "has_form" ["bounds", "thing"] (spF K 2 m_has_form) := ok_has_form D_has_form T (C_is_area.mono (by decide)) (C_is_sign.mono (by decide)) (C_places_of.mono (by decide))
  have C_height_on : Callee P w K mg base 1 "height_on" ["disk"] (spF K 1 m_height_on) := ok_height_on D_height_on T
  have C_area_on : Callee P w K mg base 1 "area_on" ["disk"] (spF K 1 m_area_on) := ok_area_on D_area_on T
  have C_shelf_on : Callee P w K mg base 3 "shelf_on" ["bounds", "disk"] (spL K 2 m_shelf_on) := ok_shelf_on D_shelf_on T (C_area_on.mono (by decide)) (C_height_on.mono (by decide)) (C_places_of.mono (by decide))
  have C_is_disk : Callee P w K mg base 6 "is_disk" ["bounds", "thing"] (spF K 2 m_is_disk) := ok_is_disk D_is_disk T (C_cap_of.mono (by decide)) (C_has_form.mono (by decide)) (C_height_on.mono (by decide)) (C_is_sound.mono (by decide)) (C_rows_of.mono (by decide)) (C_shelf_on.mono (by decide))
  have C__law_cell : Callee P w K mg base 1 "_law_cell" ["script", "k"] (spF K 2 m__law_cell) := ok__law_cell D__law_cell T
  have C__law_spread : Callee P w K mg base 1 "_law_spread" ["cell"] (spF K 1 m__law_spread) := ok__law_spread D__law_spread T
  have C__law_mixed : Callee P w K mg base 1 "_law_mixed" ["cell", "k"] (spF K 2 m__law_mixed) := ok__law_mixed D__law_mixed T
  have C__law_bounds : Callee P w K mg base 2 "_law_bounds" ["cell"] (spF K 1 m__law_bounds) := ok__law_bounds D__law_bounds T (C__law_spread.mono (by decide))
  have C__law_two : Callee P w K mg base 1 "_law_two" ["height"] (spF K 1 m__law_two) := ok__law_two D__law_two T
  have C__law_filled : Callee P w K mg base 2 "_law_filled" ["bounds", "height", "cell", "many"] (spL K 4 m__law_filled) := ok__law_filled D__law_filled T (C__law_mixed.mono (by decide)) (C__law_two.mono (by decide))
  have C__law_area : Callee P w K mg base 2 "_law_area" ["cell", "k", "size", "things"] (spL K 4 m__law_area) := ok__law_area D__law_area T (C__law_mixed.mono (by decide))
  have C__law_disk : Callee P w K mg base 3 "_law_disk" ["bounds", "height", "which", "shelf", "cell"] (spL K 5 m__law_disk) := ok__law_disk D__law_disk T (C__law_area.mono (by decide)) (C__law_two.mono (by decide))
  have C__law_cap : Callee P w K mg base 2 "_law_cap" ["bounds", "height"] (spF K 2 m__law_cap) := ok__law_cap D__law_cap T (C__law_two.mono (by decide))
  have C__law_doubled : Callee P w K mg base 1 "_law_doubled" ["shelf", "cell"] (spL K 2 m__law_doubled) := ok__law_doubled D__law_doubled T
  have C__law_place : Callee P w K mg base 1 "_law_place" ["disk", "number"] (spN K 2 m__law_place) := ok__law_place D__law_place T
  have C__law_sign : Callee P w K mg base 1 "_law_sign" ["bounds", "disk", "number"] (spL K 3 m__law_sign) := ok__law_sign D__law_sign T
  have C__law_shape : Callee P w K mg base 1 "_law_shape" ["disk", "number"] (spF K 2 m__law_shape) := ok__law_shape D__law_shape T
  have C__law_crowded : Callee P w K mg base 3 "_law_crowded" ["bounds", "height", "cell", "way"] (spL K 4 m__law_crowded) := ok__law_crowded D__law_crowded T (C__law_cap.mono (by decide)) (C__law_filled.mono (by decide))
  have C__law_wrong : Callee P w K mg base 4 "_law_wrong" ["bounds", "disk", "cell"] (spF K 3 m__law_wrong) := ok__law_wrong D__law_wrong T (C__law_crowded.mono (by decide)) (C__law_disk.mono (by decide)) (C__law_place.mono (by decide)) (C__law_shape.mono (by decide)) (C__law_sign.mono (by decide))
  have C_law : Callee P w K mg base 7 "law" ["script"] (spF K 1 m_law) := ok_law D_law T (C__law_bounds.mono (by decide)) (C__law_cap.mono (by decide)) (C__law_cell.mono (by decide)) (C__law_disk.mono (by decide)) (C__law_doubled.mono (by decide)) (C__law_filled.mono (by decide)) (C__law_spread.mono (by decide)) (C__law_wrong.mono (by decide)) (C_is_disk.mono (by decide))
  exact C_law.law hl
end
theorem ln1 {α : Type} {us : List α} (h : us.length = 1) : ∃ a0, us = [a0] := by
  obtain _ | ⟨_, us⟩ := us
  · cases h
  obtain _ | ⟨_, us⟩ := us
  · exact ⟨_, rfl⟩
  · cases h
theorem ln2 {α : Type} {us : List α} (h : us.length = 2) : ∃ a0 a1, us = [a0, a1] := by
  obtain _ | ⟨_, us⟩ := us
  · cases h
  obtain _ | ⟨_, us⟩ := us
  · cases h
  obtain _ | ⟨_, us⟩ := us
  · exact ⟨_, _, rfl⟩
  · cases h
theorem ln3 {α : Type} {us : List α} (h : us.length = 3) : ∃ a0 a1 a2, us = [a0, a1, a2] := by
  obtain _ | ⟨_, us⟩ := us
  · cases h
  obtain _ | ⟨_, us⟩ := us
  · cases h
  obtain _ | ⟨_, us⟩ := us
  · cases h
  obtain _ | ⟨_, us⟩ := us
  · exact ⟨_, _, _, rfl⟩
  · cases h
theorem ln4 {α : Type} {us : List α} (h : us.length = 4) : ∃ a0 a1 a2 a3, us = [a0, a1, a2, a3] := by
  obtain _ | ⟨_, us⟩ := us
  · cases h
  obtain _ | ⟨_, us⟩ := us
  · cases h
  obtain _ | ⟨_, us⟩ := us
  · cases h
  obtain _ | ⟨_, us⟩ := us
  · cases h
  obtain _ | ⟨_, us⟩ := us
  · exact ⟨_, _, _, _, rfl⟩
  · cases h
theorem ln5 {α : Type} {us : List α} (h : us.length = 5) : ∃ a0 a1 a2 a3 a4, us = [a0, a1, a2, a3, a4] := by
  obtain _ | ⟨_, us⟩ := us
  · cases h
  obtain _ | ⟨_, us⟩ := us
  · cases h
  obtain _ | ⟨_, us⟩ := us
  · cases h
  obtain _ | ⟨_, us⟩ := us
  · cases h
  obtain _ | ⟨_, us⟩ := us
  · cases h
  obtain _ | ⟨_, us⟩ := us
  · exact ⟨_, _, _, _, _, rfl⟩
  · cases h
theorem all_mk (hl : ∀ ns : List Int, ns.length ≤ 63 → m_law [.list (ns.map PyData.int)] = some (.bool true)) {l : PySem.W.OpenLaw} {w : World} {K : PySem.W.Frag} {h : Heap} {mg : Str → Option Value} {fa : Addr} (X : K.In h) (G : h.Ns mainGlobals mg) (hfa : mg "law" = some (.ref fa))
    {u_SIGN_PART : Tok}
    {f0 : Addr} {od0 an0 : Option Addr} {sl0 : Array (Option Value)} {oc0 kV0 dc0 pm0 cd0 ct0 : Value}
    {f1 : Addr} {od1 an1 : Option Addr} {sl1 : Array (Option Value)} {oc1 kV1 dc1 pm1 cd1 ct1 : Value}
    {f2 : Addr} {od2 an2 : Option Addr} {sl2 : Array (Option Value)} {oc2 kV2 dc2 pm2 cd2 ct2 : Value}
    {f3 : Addr} {od3 an3 : Option Addr} {sl3 : Array (Option Value)} {oc3 kV3 dc3 pm3 cd3 ct3 : Value}
    {f4 : Addr} {od4 an4 : Option Addr} {sl4 : Array (Option Value)} {oc4 kV4 dc4 pm4 cd4 ct4 : Value}
    {f5 : Addr} {od5 an5 : Option Addr} {sl5 : Array (Option Value)} {oc5 kV5 dc5 pm5 cd5 ct5 : Value}
    {f6 : Addr} {od6 an6 : Option Addr} {sl6 : Array (Option Value)} {oc6 kV6 dc6 pm6 cd6 ct6 : Value}
    {f7 : Addr} {od7 an7 : Option Addr} {sl7 : Array (Option Value)} {oc7 kV7 dc7 pm7 cd7 ct7 : Value}
    {f8 : Addr} {od8 an8 : Option Addr} {sl8 : Array (Option Value)} {oc8 kV8 dc8 pm8 cd8 ct8 : Value}
    {f9 : Addr} {od9 an9 : Option Addr} {sl9 : Array (Option Value)} {oc9 kV9 dc9 pm9 cd9 ct9 : Value}
    {f10 : Addr} {od10 an10 : Option Addr} {sl10 : Array (Option Value)} {oc10 kV10 dc10 pm10 cd10 ct10 : Value}
    {f11 : Addr} {od11 an11 : Option Addr} {sl11 : Array (Option Value)} {oc11 kV11 dc11 pm11 cd11 ct11 : Value}
    {f12 : Addr} {od12 an12 : Option Addr} {sl12 : Array (Option Value)} {oc12 kV12 dc12 pm12 cd12 ct12 : Value}
    {f13 : Addr} {od13 an13 : Option Addr} {sl13 : Array (Option Value)} {oc13 kV13 dc13 pm13 cd13 ct13 : Value}
    {f14 : Addr} {od14 an14 : Option Addr} {sl14 : Array (Option Value)} {oc14 kV14 dc14 pm14 cd14 ct14 : Value}
    {f15 : Addr} {od15 an15 : Option Addr} {sl15 : Array (Option Value)} {oc15 kV15 dc15 pm15 cd15 ct15 : Value}
    {f16 : Addr} {od16 an16 : Option Addr} {sl16 : Array (Option Value)} {oc16 kV16 dc16 pm16 cd16 ct16 : Value}
    {f17 : Addr} {od17 an17 : Option Addr} {sl17 : Array (Option Value)} {oc17 kV17 dc17 pm17 cd17 ct17 : Value}
    {f18 : Addr} {od18 an18 : Option Addr} {sl18 : Array (Option Value)} {oc18 kV18 dc18 pm18 cd18 ct18 : Value}
    {f19 : Addr} {od19 an19 : Option Addr} {sl19 : Array (Option Value)} {oc19 kV19 dc19 pm19 cd19 ct19 : Value}
    {f20 : Addr} {od20 an20 : Option Addr} {sl20 : Array (Option Value)} {oc20 kV20 dc20 pm20 cd20 ct20 : Value}
    {f21 : Addr} {od21 an21 : Option Addr} {sl21 : Array (Option Value)} {oc21 kV21 dc21 pm21 cd21 ct21 : Value}
    {f22 : Addr} {od22 an22 : Option Addr} {sl22 : Array (Option Value)} {oc22 kV22 dc22 pm22 cd22 ct22 : Value}
    {f23 : Addr} {od23 an23 : Option Addr} {sl23 : Array (Option Value)} {oc23 kV23 dc23 pm23 cd23 ct23 : Value}
    {f24 : Addr} {od24 an24 : Option Addr} {sl24 : Array (Option Value)} {oc24 kV24 dc24 pm24 cd24 ct24 : Value}
    {f25 : Addr} {od25 an25 : Option Addr} {sl25 : Array (Option Value)} {oc25 kV25 dc25 pm25 cd25 ct25 : Value}
    {f26 : Addr} {od26 an26 : Option Addr} {sl26 : Array (Option Value)} {oc26 kV26 dc26 pm26 cd26 ct26 : Value}
    {f27 : Addr} {od27 an27 : Option Addr} {sl27 : Array (Option Value)} {oc27 kV27 dc27 pm27 cd27 ct27 : Value}
    {f28 : Addr} {od28 an28 : Option Addr} {sl28 : Array (Option Value)} {oc28 kV28 dc28 pm28 cd28 ct28 : Value}
    {f29 : Addr} {od29 an29 : Option Addr} {sl29 : Array (Option Value)} {oc29 kV29 dc29 pm29 cd29 ct29 : Value}
    {f30 : Addr} {od30 an30 : Option Addr} {sl30 : Array (Option Value)} {oc30 kV30 dc30 pm30 cd30 ct30 : Value}
    {f31 : Addr} {od31 an31 : Option Addr} {sl31 : Array (Option Value)} {oc31 kV31 dc31 pm31 cd31 ct31 : Value}
    {f32 : Addr} {od32 an32 : Option Addr} {sl32 : Array (Option Value)} {oc32 kV32 dc32 pm32 cd32 ct32 : Value}
    {f33 : Addr} {od33 an33 : Option Addr} {sl33 : Array (Option Value)} {oc33 kV33 dc33 pm33 cd33 ct33 : Value}
    {f34 : Addr} {od34 an34 : Option Addr} {sl34 : Array (Option Value)} {oc34 kV34 dc34 pm34 cd34 ct34 : Value}
    (a0 : PySem.W.nsIn K mainGlobals "is_whole" = some (some (.ref f0))) (l0 : K.lookup f0 = some ⟨oc0, od0, .func (PySem.W.fnOf "is_whole" "is_whole" (defArgs s_is_whole) (defBody s_is_whole) (defScope s_is_whole) .none kV0 dc0 pm0 an0 cd0 ct0), sl0⟩) (c0 : PySem.W.codeIn K cd0 "is_whole" = true) (k0 : PySem.W.keepIn K (.ref f0) = true)
    (a1 : PySem.W.nsIn K mainGlobals "twofold" = some (some (.ref f1))) (l1 : K.lookup f1 = some ⟨oc1, od1, .func (PySem.W.fnOf "twofold" "twofold" (defArgs s_twofold) (defBody s_twofold) (defScope s_twofold) .none kV1 dc1 pm1 an1 cd1 ct1), sl1⟩) (c1 : PySem.W.codeIn K cd1 "twofold" = true) (k1 : PySem.W.keepIn K (.ref f1) = true)
    (a2 : PySem.W.nsIn K mainGlobals "places_of" = some (some (.ref f2))) (l2 : K.lookup f2 = some ⟨oc2, od2, .func (PySem.W.fnOf "places_of" "places_of" (defArgs s_places_of) (defBody s_places_of) (defScope s_places_of) .none kV2 dc2 pm2 an2 cd2 ct2), sl2⟩) (c2 : PySem.W.codeIn K cd2 "places_of" = true) (k2 : PySem.W.keepIn K (.ref f2) = true)
    (a3 : PySem.W.nsIn K mainGlobals "cap_of" = some (some (.ref f3))) (l3 : K.lookup f3 = some ⟨oc3, od3, .func (PySem.W.fnOf "cap_of" "cap_of" (defArgs s_cap_of) (defBody s_cap_of) (defScope s_cap_of) .none kV3 dc3 pm3 an3 cd3 ct3), sl3⟩) (c3 : PySem.W.codeIn K cd3 "cap_of" = true) (k3 : PySem.W.keepIn K (.ref f3) = true)
    (a4 : PySem.W.nsIn K mainGlobals "is_straight" = some (some (.ref f4))) (l4 : K.lookup f4 = some ⟨oc4, od4, .func (PySem.W.fnOf "is_straight" "is_straight" (defArgs s_is_straight) (defBody s_is_straight) (defScope s_is_straight) .none kV4 dc4 pm4 an4 cd4 ct4), sl4⟩) (c4 : PySem.W.codeIn K cd4 "is_straight" = true) (k4 : PySem.W.keepIn K (.ref f4) = true)
    (a5 : PySem.W.nsIn K mainGlobals "is_sound" = some (some (.ref f5))) (l5 : K.lookup f5 = some ⟨oc5, od5, .func (PySem.W.fnOf "is_sound" "is_sound" (defArgs s_is_sound) (defBody s_is_sound) (defScope s_is_sound) .none kV5 dc5 pm5 an5 cd5 ct5), sl5⟩) (c5 : PySem.W.codeIn K cd5 "is_sound" = true) (k5 : PySem.W.keepIn K (.ref f5) = true)
    (a6 : PySem.W.nsIn K mainGlobals "second_place" = some (some (.ref f6))) (l6 : K.lookup f6 = some ⟨oc6, od6, .func (PySem.W.fnOf "second_place" "second_place" (defArgs s_second_place) (defBody s_second_place) (defScope s_second_place) .none kV6 dc6 pm6 an6 cd6 ct6), sl6⟩) (c6 : PySem.W.codeIn K cd6 "second_place" = true) (k6 : PySem.W.keepIn K (.ref f6) = true)
    (a7 : PySem.W.nsIn K mainGlobals "mended" = some (some (.ref f7))) (l7 : K.lookup f7 = some ⟨oc7, od7, .func (PySem.W.fnOf "mended" "mended" (defArgs s_mended) (defBody s_mended) (defScope s_mended) .none kV7 dc7 pm7 an7 cd7 ct7), sl7⟩) (c7 : PySem.W.codeIn K cd7 "mended" = true) (k7 : PySem.W.keepIn K (.ref f7) = true)
    (a8 : PySem.W.nsIn K mainGlobals "rows_of" = some (some (.ref f8))) (l8 : K.lookup f8 = some ⟨oc8, od8, .func (PySem.W.fnOf "rows_of" "rows_of" (defArgs s_rows_of) (defBody s_rows_of) (defScope s_rows_of) .none kV8 dc8 pm8 an8 cd8 ct8), sl8⟩) (c8 : PySem.W.codeIn K cd8 "rows_of" = true) (k8 : PySem.W.keepIn K (.ref f8) = true)
    (a9 : PySem.W.nsIn K mainGlobals "done" = some (some (.ref f9))) (l9 : K.lookup f9 = some ⟨oc9, od9, .func (PySem.W.fnOf "done" "done" (defArgs s_done) (defBody s_done) (defScope s_done) .none kV9 dc9 pm9 an9 cd9 ct9), sl9⟩) (c9 : PySem.W.codeIn K cd9 "done" = true) (k9 : PySem.W.keepIn K (.ref f9) = true)
    (a10 : PySem.W.nsIn K mainGlobals "is_pair" = some (some (.ref f10))) (l10 : K.lookup f10 = some ⟨oc10, od10, .func (PySem.W.fnOf "is_pair" "is_pair" (defArgs s_is_pair) (defBody s_is_pair) (defScope s_is_pair) .none kV10 dc10 pm10 an10 cd10 ct10), sl10⟩) (c10 : PySem.W.codeIn K cd10 "is_pair" = true) (k10 : PySem.W.keepIn K (.ref f10) = true)
    (a11 : PySem.W.nsIn K mainGlobals "is_place" = some (some (.ref f11))) (l11 : K.lookup f11 = some ⟨oc11, od11, .func (PySem.W.fnOf "is_place" "is_place" (defArgs s_is_place) (defBody s_is_place) (defScope s_is_place) .none kV11 dc11 pm11 an11 cd11 ct11), sl11⟩) (c11 : PySem.W.codeIn K cd11 "is_place" = true) (k11 : PySem.W.keepIn K (.ref f11) = true)
    (a12 : PySem.W.nsIn K mainGlobals "is_area" = some (some (.ref f12))) (l12 : K.lookup f12 = some ⟨oc12, od12, .func (PySem.W.fnOf "is_area" "is_area" (defArgs s_is_area) (defBody s_is_area) (defScope s_is_area) .none kV12 dc12 pm12 an12 cd12 ct12), sl12⟩) (c12 : PySem.W.codeIn K cd12 "is_area" = true) (k12 : PySem.W.keepIn K (.ref f12) = true)
    (a13 : PySem.W.nsIn K mainGlobals "is_sign" = some (some (.ref f13))) (l13 : K.lookup f13 = some ⟨oc13, od13, .func (PySem.W.fnOf "is_sign" "is_sign" (defArgs s_is_sign) (defBody s_is_sign) (defScope s_is_sign) .none kV13 dc13 pm13 an13 cd13 ct13), sl13⟩) (c13 : PySem.W.codeIn K cd13 "is_sign" = true) (k13 : PySem.W.keepIn K (.ref f13) = true)
    (a14 : PySem.W.nsIn K mainGlobals "has_form" = some (some (.ref f14))) (l14 : K.lookup f14 = some ⟨oc14, od14, .func (PySem.W.fnOf "has_form" "has_form" (defArgs s_has_form) (defBody s_has_form) (defScope s_has_form) .none kV14 dc14 pm14 an14 cd14 ct14), sl14⟩) (c14 : PySem.W.codeIn K cd14 "has_form" = true) (k14 : PySem.W.keepIn K (.ref f14) = true)
    (a15 : PySem.W.nsIn K mainGlobals "is_disk" = some (some (.ref f15))) (l15 : K.lookup f15 = some ⟨oc15, od15, .func (PySem.W.fnOf "is_disk" "is_disk" (defArgs s_is_disk) (defBody s_is_disk) (defScope s_is_disk) .none kV15 dc15 pm15 an15 cd15 ct15), sl15⟩) (c15 : PySem.W.codeIn K cd15 "is_disk" = true) (k15 : PySem.W.keepIn K (.ref f15) = true)
    (a16 : PySem.W.nsIn K mainGlobals "area_on" = some (some (.ref f16))) (l16 : K.lookup f16 = some ⟨oc16, od16, .func (PySem.W.fnOf "area_on" "area_on" (defArgs s_area_on) (defBody s_area_on) (defScope s_area_on) .none kV16 dc16 pm16 an16 cd16 ct16), sl16⟩) (c16 : PySem.W.codeIn K cd16 "area_on" = true) (k16 : PySem.W.keepIn K (.ref f16) = true)
    (a17 : PySem.W.nsIn K mainGlobals "height_on" = some (some (.ref f17))) (l17 : K.lookup f17 = some ⟨oc17, od17, .func (PySem.W.fnOf "height_on" "height_on" (defArgs s_height_on) (defBody s_height_on) (defScope s_height_on) .none kV17 dc17 pm17 an17 cd17 ct17), sl17⟩) (c17 : PySem.W.codeIn K cd17 "height_on" = true) (k17 : PySem.W.keepIn K (.ref f17) = true)
    (a18 : PySem.W.nsIn K mainGlobals "shelf_on" = some (some (.ref f18))) (l18 : K.lookup f18 = some ⟨oc18, od18, .func (PySem.W.fnOf "shelf_on" "shelf_on" (defArgs s_shelf_on) (defBody s_shelf_on) (defScope s_shelf_on) .none kV18 dc18 pm18 an18 cd18 ct18), sl18⟩) (c18 : PySem.W.codeIn K cd18 "shelf_on" = true) (k18 : PySem.W.keepIn K (.ref f18) = true)
    (a19 : PySem.W.nsIn K mainGlobals "_law_cell" = some (some (.ref f19))) (l19 : K.lookup f19 = some ⟨oc19, od19, .func (PySem.W.fnOf "_law_cell" "_law_cell" (defArgs s__law_cell) (defBody s__law_cell) (defScope s__law_cell) .none kV19 dc19 pm19 an19 cd19 ct19), sl19⟩) (c19 : PySem.W.codeIn K cd19 "_law_cell" = true) (k19 : PySem.W.keepIn K (.ref f19) = true)
    (a20 : PySem.W.nsIn K mainGlobals "_law_spread" = some (some (.ref f20))) (l20 : K.lookup f20 = some ⟨oc20, od20, .func (PySem.W.fnOf "_law_spread" "_law_spread" (defArgs s__law_spread) (defBody s__law_spread) (defScope s__law_spread) .none kV20 dc20 pm20 an20 cd20 ct20), sl20⟩) (c20 : PySem.W.codeIn K cd20 "_law_spread" = true) (k20 : PySem.W.keepIn K (.ref f20) = true)
    (a21 : PySem.W.nsIn K mainGlobals "_law_mixed" = some (some (.ref f21))) (l21 : K.lookup f21 = some ⟨oc21, od21, .func (PySem.W.fnOf "_law_mixed" "_law_mixed" (defArgs s__law_mixed) (defBody s__law_mixed) (defScope s__law_mixed) .none kV21 dc21 pm21 an21 cd21 ct21), sl21⟩) (c21 : PySem.W.codeIn K cd21 "_law_mixed" = true) (k21 : PySem.W.keepIn K (.ref f21) = true)
    (a22 : PySem.W.nsIn K mainGlobals "_law_bounds" = some (some (.ref f22))) (l22 : K.lookup f22 = some ⟨oc22, od22, .func (PySem.W.fnOf "_law_bounds" "_law_bounds" (defArgs s__law_bounds) (defBody s__law_bounds) (defScope s__law_bounds) .none kV22 dc22 pm22 an22 cd22 ct22), sl22⟩) (c22 : PySem.W.codeIn K cd22 "_law_bounds" = true) (k22 : PySem.W.keepIn K (.ref f22) = true)
    (a23 : PySem.W.nsIn K mainGlobals "_law_two" = some (some (.ref f23))) (l23 : K.lookup f23 = some ⟨oc23, od23, .func (PySem.W.fnOf "_law_two" "_law_two" (defArgs s__law_two) (defBody s__law_two) (defScope s__law_two) .none kV23 dc23 pm23 an23 cd23 ct23), sl23⟩) (c23 : PySem.W.codeIn K cd23 "_law_two" = true) (k23 : PySem.W.keepIn K (.ref f23) = true)
    (a24 : PySem.W.nsIn K mainGlobals "_law_filled" = some (some (.ref f24))) (l24 : K.lookup f24 = some ⟨oc24, od24, .func (PySem.W.fnOf "_law_filled" "_law_filled" (defArgs s__law_filled) (defBody s__law_filled) (defScope s__law_filled) .none kV24 dc24 pm24 an24 cd24 ct24), sl24⟩) (c24 : PySem.W.codeIn K cd24 "_law_filled" = true) (k24 : PySem.W.keepIn K (.ref f24) = true)
    (a25 : PySem.W.nsIn K mainGlobals "_law_area" = some (some (.ref f25))) (l25 : K.lookup f25 = some ⟨oc25, od25, .func (PySem.W.fnOf "_law_area" "_law_area" (defArgs s__law_area) (defBody s__law_area) (defScope s__law_area) .none kV25 dc25 pm25 an25 cd25 ct25), sl25⟩) (c25 : PySem.W.codeIn K cd25 "_law_area" = true) (k25 : PySem.W.keepIn K (.ref f25) = true)
    (a26 : PySem.W.nsIn K mainGlobals "_law_disk" = some (some (.ref f26))) (l26 : K.lookup f26 = some ⟨oc26, od26, .func (PySem.W.fnOf "_law_disk" "_law_disk" (defArgs s__law_disk) (defBody s__law_disk) (defScope s__law_disk) .none kV26 dc26 pm26 an26 cd26 ct26), sl26⟩) (c26 : PySem.W.codeIn K cd26 "_law_disk" = true) (k26 : PySem.W.keepIn K (.ref f26) = true)
    (a27 : PySem.W.nsIn K mainGlobals "_law_cap" = some (some (.ref f27))) (l27 : K.lookup f27 = some ⟨oc27, od27, .func (PySem.W.fnOf "_law_cap" "_law_cap" (defArgs s__law_cap) (defBody s__law_cap) (defScope s__law_cap) .none kV27 dc27 pm27 an27 cd27 ct27), sl27⟩) (c27 : PySem.W.codeIn K cd27 "_law_cap" = true) (k27 : PySem.W.keepIn K (.ref f27) = true)
    (a28 : PySem.W.nsIn K mainGlobals "_law_doubled" = some (some (.ref f28))) (l28 : K.lookup f28 = some ⟨oc28, od28, .func (PySem.W.fnOf "_law_doubled" "_law_doubled" (defArgs s__law_doubled) (defBody s__law_doubled) (defScope s__law_doubled) .none kV28 dc28 pm28 an28 cd28 ct28), sl28⟩) (c28 : PySem.W.codeIn K cd28 "_law_doubled" = true) (k28 : PySem.W.keepIn K (.ref f28) = true)
    (a29 : PySem.W.nsIn K mainGlobals "_law_place" = some (some (.ref f29))) (l29 : K.lookup f29 = some ⟨oc29, od29, .func (PySem.W.fnOf "_law_place" "_law_place" (defArgs s__law_place) (defBody s__law_place) (defScope s__law_place) .none kV29 dc29 pm29 an29 cd29 ct29), sl29⟩) (c29 : PySem.W.codeIn K cd29 "_law_place" = true) (k29 : PySem.W.keepIn K (.ref f29) = true)
    (a30 : PySem.W.nsIn K mainGlobals "_law_sign" = some (some (.ref f30))) (l30 : K.lookup f30 = some ⟨oc30, od30, .func (PySem.W.fnOf "_law_sign" "_law_sign" (defArgs s__law_sign) (defBody s__law_sign) (defScope s__law_sign) .none kV30 dc30 pm30 an30 cd30 ct30), sl30⟩) (c30 : PySem.W.codeIn K cd30 "_law_sign" = true) (k30 : PySem.W.keepIn K (.ref f30) = true)
    (a31 : PySem.W.nsIn K mainGlobals "_law_shape" = some (some (.ref f31))) (l31 : K.lookup f31 = some ⟨oc31, od31, .func (PySem.W.fnOf "_law_shape" "_law_shape" (defArgs s__law_shape) (defBody s__law_shape) (defScope s__law_shape) .none kV31 dc31 pm31 an31 cd31 ct31), sl31⟩) (c31 : PySem.W.codeIn K cd31 "_law_shape" = true) (k31 : PySem.W.keepIn K (.ref f31) = true)
    (a32 : PySem.W.nsIn K mainGlobals "_law_crowded" = some (some (.ref f32))) (l32 : K.lookup f32 = some ⟨oc32, od32, .func (PySem.W.fnOf "_law_crowded" "_law_crowded" (defArgs s__law_crowded) (defBody s__law_crowded) (defScope s__law_crowded) .none kV32 dc32 pm32 an32 cd32 ct32), sl32⟩) (c32 : PySem.W.codeIn K cd32 "_law_crowded" = true) (k32 : PySem.W.keepIn K (.ref f32) = true)
    (a33 : PySem.W.nsIn K mainGlobals "_law_wrong" = some (some (.ref f33))) (l33 : K.lookup f33 = some ⟨oc33, od33, .func (PySem.W.fnOf "_law_wrong" "_law_wrong" (defArgs s__law_wrong) (defBody s__law_wrong) (defScope s__law_wrong) .none kV33 dc33 pm33 an33 cd33 ct33), sl33⟩) (c33 : PySem.W.codeIn K cd33 "_law_wrong" = true) (k33 : PySem.W.keepIn K (.ref f33) = true)
    (a34 : PySem.W.nsIn K mainGlobals "law" = some (some (.ref f34))) (l34 : K.lookup f34 = some ⟨oc34, od34, .func (PySem.W.fnOf "law" "law" (defArgs s_law) (defBody s_law) (defScope s_law) .none kV34 dc34 pm34 an34 cd34 ct34), sl34⟩) (c34 : PySem.W.codeIn K cd34 "law" = true) (k34 : PySem.W.keepIn K (.ref f34) = true)
    (z_all : PySem.W.nsIn K mainGlobals "all" = some none)
    (z_bool : PySem.W.nsIn K mainGlobals "bool" = some none)
    (z_enumerate : PySem.W.nsIn K mainGlobals "enumerate" = some none)
    (z_int : PySem.W.nsIn K mainGlobals "int" = some none)
    (z_isinstance : PySem.W.nsIn K mainGlobals "isinstance" = some none)
    (z_len : PySem.W.nsIn K mainGlobals "len" = some none)
    (z_list : PySem.W.nsIn K mainGlobals "list" = some none)
    (z_max : PySem.W.nsIn K mainGlobals "max" = some none)
    (z_range : PySem.W.nsIn K mainGlobals "range" = some none)
    (z_tuple : PySem.W.nsIn K mainGlobals "tuple" = some none)
    (z_zip : PySem.W.nsIn K mainGlobals "zip" = some none)
    (z_SIGN_PART : PySem.W.nsIn K mainGlobals "SIGN_PART" = some (some (.int 2 u_SIGN_PART)))
    : ∃ fd : FuncData, (∀ (s : Shared) (u : Value), BindsTo s fd ⟨[u], []⟩ [("script", u)]) ∧ ∀ base : Heap, K.In base → base.Ns mainGlobals mg → FnOk l.prog w K mg base CX0 7 fa fd ["script"] (spLawP K) := by
  have T : Txt K mg := ⟨PySem.W.mg_none_of X G z_all, PySem.W.mg_none_of X G z_bool, PySem.W.mg_none_of X G z_enumerate, PySem.W.mg_none_of X G z_int, PySem.W.mg_none_of X G z_isinstance, PySem.W.mg_none_of X G z_len, PySem.W.mg_none_of X G z_list, PySem.W.mg_none_of X G z_max, PySem.W.mg_none_of X G z_range, PySem.W.mg_none_of X G z_tuple, PySem.W.mg_none_of X G z_zip, ⟨_, PySem.W.mg_of X G z_SIGN_PART⟩⟩
  have D_is_whole : Def K mg "is_whole" s_is_whole ["thing"] := def_mk X G (fun _ _ _ _ _ _ us hl => by obtain ⟨_, rfl⟩ := ln1 hl; rfl) a0 l0 c0 k0
  have D_twofold : Def K mg "twofold" s_twofold ["height"] := def_mk X G (fun _ _ _ _ _ _ us hl => by obtain ⟨_, rfl⟩ := ln1 hl; rfl) a1 l1 c1 k1
  have D_places_of : Def K mg "places_of" s_places_of ["bounds", "height"] := def_mk X G (fun _ _ _ _ _ _ us hl => by obtain ⟨_, _, rfl⟩ := ln2 hl; rfl) a2 l2 c2 k2
  have D_cap_of : Def K mg "cap_of" s_cap_of ["bounds", "height"] := def_mk X G (fun _ _ _ _ _ _ us hl => by obtain ⟨_, _, rfl⟩ := ln2 hl; rfl) a3 l3 c3 k3
  have D_is_straight : Def K mg "is_straight" s_is_straight ["shelf"] := def_mk X G (fun _ _ _ _ _ _ us hl => by obtain ⟨_, rfl⟩ := ln1 hl; rfl) a4 l4 c4 k4
  have D_is_sound : Def K mg "is_sound" s_is_sound ["shelf"] := def_mk X G (fun _ _ _ _ _ _ us hl => by obtain ⟨_, rfl⟩ := ln1 hl; rfl) a5 l5 c5 k5
  have D_second_place : Def K mg "second_place" s_second_place ["shelf"] := def_mk X G (fun _ _ _ _ _ _ us hl => by obtain ⟨_, rfl⟩ := ln1 hl; rfl) a6 l6 c6 k6
  have D_mended : Def K mg "mended" s_mended ["shelf"] := def_mk X G (fun _ _ _ _ _ _ us hl => by obtain ⟨_, rfl⟩ := ln1 hl; rfl) a7 l7 c7 k7
  have D_rows_of : Def K mg "rows_of" s_rows_of ["shelf"] := def_mk X G (fun _ _ _ _ _ _ us hl => by obtain ⟨_, rfl⟩ := ln1 hl; rfl) a8 l8 c8 k8
  have D_done : Def K mg "done" s_done ["shelf", "writes"] := def_mk X G (fun _ _ _ _ _ _ us hl => by obtain ⟨_, _, rfl⟩ := ln2 hl; rfl) a9 l9 c9 k9
  have D_is_pair : Def K mg "is_pair" s_is_pair ["thing"] := def_mk X G (fun _ _ _ _ _ _ us hl => by obtain ⟨_, rfl⟩ := ln1 hl; rfl) a10 l10 c10 k10
  have D_is_place : Def K mg "is_place" s_is_place ["thing"] := def_mk X G (fun _ _ _ _ _ _ us hl => by obtain ⟨_, rfl⟩ := ln1 hl; rfl) a11 l11 c11 k11
  have D_is_area : Def K mg "is_area" s_is_area ["thing", "size"] := def_mk X G (fun _ _ _ _ _ _ us hl => by obtain ⟨_, _, rfl⟩ := ln2 hl; rfl) a12 l12 c12 k12
  have D_is_sign : Def K mg "is_sign" s_is_sign ["bounds", "thing"] := def_mk X G (fun _ _ _ _ _ _ us hl => by obtain ⟨_, _, rfl⟩ := ln2 hl; rfl) a13 l13 c13 k13
  have D_has_form : Def K mg "has_form" s_has_form ["bounds", "thing"] := def_mk X G (fun _ _ _ _ _ _ us hl => by obtain ⟨_, _, rfl⟩ := ln2 hl; rfl) a14 l14 c14 k14
  have D_is_disk : Def K mg "is_disk" s_is_disk ["bounds", "thing"] := def_mk X G (fun _ _ _ _ _ _ us hl => by obtain ⟨_, _, rfl⟩ := ln2 hl; rfl) a15 l15 c15 k15
  have D_area_on : Def K mg "area_on" s_area_on ["disk"] := def_mk X G (fun _ _ _ _ _ _ us hl => by obtain ⟨_, rfl⟩ := ln1 hl; rfl) a16 l16 c16 k16
  have D_height_on : Def K mg "height_on" s_height_on ["disk"] := def_mk X G (fun _ _ _ _ _ _ us hl => by obtain ⟨_, rfl⟩ := ln1 hl; rfl) a17 l17 c17 k17
  have D_shelf_on : Def K mg "shelf_on" s_shelf_on ["bounds", "disk"] := def_mk X G (fun _ _ _ _ _ _ us hl => by obtain ⟨_, _, rfl⟩ := ln2 hl; rfl) a18 l18 c18 k18
  have D__law_cell : Def K mg "_law_cell" s__law_cell ["script", "k"] := def_mk X G (fun _ _ _ _ _ _ us hl => by obtain ⟨_, _, rfl⟩ := ln2 hl; rfl) a19 l19 c19 k19
  have D__law_spread : Def K mg "_law_spread" s__law_spread ["cell"] := def_mk X G (fun _ _ _ _ _ _ us hl => by obtain ⟨_, rfl⟩ := ln1 hl; rfl) a20 l20 c20 k20
  have D__law_mixed : Def K mg "_law_mixed" s__law_mixed ["cell", "k"] := def_mk X G (fun _ _ _ _ _ _ us hl => by obtain ⟨_, _, rfl⟩ := ln2 hl; rfl) a21 l21 c21 k21
  have D__law_bounds : Def K mg "_law_bounds" s__law_bounds ["cell"] := def_mk X G (fun _ _ _ _ _ _ us hl => by obtain ⟨_, rfl⟩ := ln1 hl; rfl) a22 l22 c22 k22
  have D__law_two : Def K mg "_law_two" s__law_two ["height"] := def_mk X G (fun _ _ _ _ _ _ us hl => by obtain ⟨_, rfl⟩ := ln1 hl; rfl) a23 l23 c23 k23
  have D__law_filled : Def K mg "_law_filled" s__law_filled ["bounds", "height", "cell", "many"] := def_mk X G (fun _ _ _ _ _ _ us hl => by obtain ⟨_, _, _, _, rfl⟩ := ln4 hl; rfl) a24 l24 c24 k24
  have D__law_area : Def K mg "_law_area" s__law_area ["cell", "k", "size", "things"] := def_mk X G (fun _ _ _ _ _ _ us hl => by obtain ⟨_, _, _, _, rfl⟩ := ln4 hl; rfl) a25 l25 c25 k25
  have D__law_disk : Def K mg "_law_disk" s__law_disk ["bounds", "height", "which", "shelf", "cell"] := def_mk X G (fun _ _ _ _ _ _ us hl => by obtain ⟨_, _, _, _, _, rfl⟩ := ln5 hl; rfl) a26 l26 c26 k26
  have D__law_cap : Def K mg "_law_cap" s__law_cap ["bounds", "height"] := def_mk X G (fun _ _ _ _ _ _ us hl => by obtain ⟨_, _, rfl⟩ := ln2 hl; rfl) a27 l27 c27 k27
  have D__law_doubled : Def K mg "_law_doubled" s__law_doubled ["shelf", "cell"] := def_mk X G (fun _ _ _ _ _ _ us hl => by obtain ⟨_, _, rfl⟩ := ln2 hl; rfl) a28 l28 c28 k28
  have D__law_place : Def K mg "_law_place" s__law_place ["disk", "number"] := def_mk X G (fun _ _ _ _ _ _ us hl => by obtain ⟨_, _, rfl⟩ := ln2 hl; rfl) a29 l29 c29 k29
  have D__law_sign : Def K mg "_law_sign" s__law_sign ["bounds", "disk", "number"] := def_mk X G (fun _ _ _ _ _ _ us hl => by obtain ⟨_, _, _, rfl⟩ := ln3 hl; rfl) a30 l30 c30 k30
  have D__law_shape : Def K mg "_law_shape" s__law_shape ["disk", "number"] := def_mk X G (fun _ _ _ _ _ _ us hl => by obtain ⟨_, _, rfl⟩ := ln2 hl; rfl) a31 l31 c31 k31
  have D__law_crowded : Def K mg "_law_crowded" s__law_crowded ["bounds", "height", "cell", "way"] := def_mk X G (fun _ _ _ _ _ _ us hl => by obtain ⟨_, _, _, _, rfl⟩ := ln4 hl; rfl) a32 l32 c32 k32
  have D__law_wrong : Def K mg "_law_wrong" s__law_wrong ["bounds", "disk", "cell"] := def_mk X G (fun _ _ _ _ _ _ us hl => by obtain ⟨_, _, _, rfl⟩ := ln3 hl; rfl) a33 l33 c33 k33
  have D_law : Def K mg "law" s_law ["script"] := def_mk X G (fun _ _ _ _ _ _ us hl => by obtain ⟨_, rfl⟩ := ln1 hl; rfl) a34 l34 c34 k34
  exact law_mk D_law hfa fun base _ _ => chain T hl D_is_whole D_twofold D_places_of D_cap_of D_is_straight D_is_sound D_second_place D_mended D_rows_of D_done D_is_pair D_is_place D_is_area D_is_sign D_has_form D_is_disk D_area_on D_height_on D_shelf_on D__law_cell D__law_spread D__law_mixed D__law_bounds D__law_two D__law_filled D__law_area D__law_disk D__law_cap D__law_doubled D__law_place D__law_sign D__law_shape D__law_crowded D__law_wrong D_law
end S22
set_option maxHeartbeats 4000000
namespace S22
open PySem L2 LL
def isW : D → Bool
  | .int _ => true
  | _ => false
def isPair : D → Bool
  | .tuple [x, y] => isW x && isW y
  | _ => false
def isPlace : D → Bool
  | .tuple [] => true
  | d => isPair d
def isArea (n : Nat) : D → Bool
  | .list ds => decide (ds.length = n) && ds.all isPlace
  | _ => false
def isSign (t : Nat) : D → Bool
  | .tuple [.int x, .int y] => (decide (0 ≤ x) && decide (x ≤ 1)) && (decide (0 ≤ y) && decide (y ≤ (t : Int)))
  | _ => false
def isSigns (t : Nat) : D → Bool
  | .list [x] => isSign t x
  | _ => false
def hasForm (n t : Nat) : D → Bool
  | .list [a, b, s] => (isArea n a && isArea n b) && isSigns t s
  | _ => false
theorem whole_eq (d : D) : m_is_whole [d] = some (.bool (isW d)) := by
  cases d <;> rfl
def Fits : D → Prop
  | .list ds => ds.length < 16777216
  | .tuple ds => ds.length < 16777216
  | _ => True
theorem len_T (ds : List D) (h : ds.length < 16777216) : gLen [.tuple ds] = some (.int (ds.length : Int)) := by
  rfl
theorem pair_eq (d : D) (h : Fits d) : m_is_pair [d] = some (.bool (isPair d)) := by
  cases d with
  | tuple ds =>
    have hl := len_T ds h
    match ds, hl with
    | [x, y], hl =>
      have h1 := whole_eq x
      have h2 := whole_eq y
      refine runF_of (o := .rt (.bool _)) rfl ?_ rfl
      unfold b_is_pair
      show _ = some (Out.rt (.bool (isW x && isW y)))
      have hl2 : gLen [.tuple [x, y]] = some (.int 2) := rfl
      clear h hl
      cases hx : isW x <;> cases hy : isW y <;> rw [hx] at h1 <;> rw [hy] at h2 <;> walk_at "pu"
    | [], hl => rfl
    | [x], hl => rfl
    | x :: y :: z :: r, hl =>
      refine runF_of (o := .rt (.bool false)) rfl ?_ rfl
      unfold b_is_pair
      have h2 : ¬ (((x :: y :: z :: r).length : Int) = 2) := by simp; omega
      generalize ((x :: y :: z :: r).length : Int) = L at *
      clear h
      walk_at "pu"
  | _ => rfl
theorem place_eq (d : D) (h : Fits d) : m_is_place [d] = some (.bool (isPlace d)) := by
  have hp := pair_eq d h
  cases d with
  | tuple ds =>
    have hl := len_T ds h
    cases ds with
    | nil => rfl
    | cons x r =>
      have e : isPlace (.tuple (x :: r)) = isPair (.tuple (x :: r)) := rfl
      rw [e]
      have h2 : ¬ (((x :: r).length : Int) = 0) := by simp; omega
      refine runF_of (o := .rt (.bool _)) rfl ?_ rfl
      unfold b_is_place
      generalize ((x :: r).length : Int) = L at *
      have ht : subT "tuple" "tuple" = true := rfl
      clear h e
      cases hb : isPair (.tuple (x :: r)) <;> rw [hb] at hp <;> walk_at "pu"
  | list ds =>
    refine runF_of (o := .rt (.bool false)) rfl ?_ rfl
    unfold b_is_place
    have hp' : m_is_pair [.list ds] = some (.bool false) := hp
    have ht : subT "list" "tuple" = false := rfl
    clear hp h
    walk_at "pu"
  | _ => rfl
theorem area_eq (d : D) (n : Nat) (h : Fits d) (hi : ∀ ds, d = .list ds → ∀ x ∈ ds, Fits x) : m_is_area [d, .int (n : Int)] = some (.bool (isArea n d)) := by
  cases d with
  | list ds =>
    have hl : ds.length < 16777216 := h
    have hcomp : pComp (pItL (pVar 0)) (bd1 0) pTrue (pCall m_is_place (pCons (pVar 0) pNil)) 1 [] [some (.list ds), some (.int (n : Int))] = some ((ds.map isPlace).map PyData.bool) := by
      refine (comp_eq (items := ds) rfl hl).trans ?_
      have := compP_mapT (bd := bd1 0) (fe := pCall m_is_place (pCons (pVar 0) pNil)) (ρ0 := [none]) (fun x : D => x) (fun x => PyData.bool (isPlace x)) ds fun x hx => ⟨_, rfl, by
        have := place_eq x (hi ds rfl x hx)
        show Option.bind (some [x]) m_is_place = _
        exact this⟩
      rw [List.map_id'] at this
      rw [List.map_map]
      exact this
    have hall : gAll [.list ((ds.map isPlace).map PyData.bool)] = some (.bool (ds.all isPlace)) := by
      show (unB ((ds.map isPlace).map PyData.bool)).bind _ = _
      rw [unB_map]
      show some (PyData.bool ((ds.map isPlace).all id)) = _
      congr 2
      rw [List.all_map]
      rfl
    have hlen : gLen [.list ds] = some (.int (ds.length : Int)) := rfl
    refine runF_of (o := .rt (.bool (decide (ds.length = n) && ds.all isPlace))) rfl ?_ rfl
    unfold b_is_area
    generalize pComp (pItL (pVar 0)) (bd1 0) pTrue (pCall m_is_place (pCons (pVar 0) pNil)) 1 [] = PC at *
    generalize (ds.map isPlace).map PyData.bool = BB at *
    by_cases e : ds.length = n
    · have e' : (ds.length : Int) = (n : Int) := by omega
      rw [decide_eq_true e, Bool.true_and]
      generalize (ds.length : Int) = L at *
      clear h hi hl e
      walk_at "pu"
    · have e' : ¬ (ds.length : Int) = (n : Int) := by omega
      rw [decide_eq_false e, Bool.false_and]
      generalize (ds.length : Int) = L at *
      clear h hi hl e hall hcomp
      walk_at "pu"
  | _ => rfl
theorem disk_any {t w st : Nat} (c : Int) (h a : Nat) (ts : List Thing) (bd : Bd (t : Int) (w : Int) (st : Int)) (ha : a < 2) (hl : ts.length ≤ 320) :
    ∃ A B R : List Thing, m__law_disk [.tuple [.int (t : Int), .int (w : Int), .int (st : Int)], .int (h : Int), .int (a : Int), encL ts, .int c] = some ([A, B, [some ((a : Int), (h : Int))]].map encL) ∧ R.length = 2 ^ t * w - ts.length ∧ ((a = 0 ∧ A = ts ++ R ∧ B.length = 2 ^ t * w) ∨ (a = 1 ∧ B = ts ++ R ∧ A.length = 2 ^ t * w)) := by
  have t4 : t ≤ 4 := by have := bd.t4; omega
  have w20 : w ≤ 20 := by have := bd.hi; omega
  have hp : 2 ^ t ≤ 16 := by
    have : 2 ^ t ≤ 2 ^ 4 := Nat.pow_le_pow_right (by decide) t4
    omega
  have hN : 2 ^ t * w ≤ 320 := by
    have := Nat.mul_le_mul hp w20
    omega
  have hth : (things ts).length ≤ 320 := by
    have : (things ts).length ≤ ts.length := List.length_filterMap_le _ _
    omega
  obtain ⟨A0, hA, lA⟩ := area_ex c 0 (2 ^ t * w) (things ts) hN hth
  obtain ⟨B0, hB, lB⟩ := area_ex c 1 (2 ^ t * w) (things ts) hN hth
  have htwo := two_eq (h := (t : Int)) (by omega) (by omega)
  rw [tw_nat] at htwo
  have hmul : ((2 ^ t : Nat) : Int) * (w : Int) = ((2 ^ t * w : Nat) : Int) := by push_cast; rfl
  have hsm : -18446744073709551616 < ((2 ^ t : Nat) : Int) ∧ ((2 ^ t : Nat) : Int) < 18446744073709551616 := by
    generalize 2 ^ t = P at hp
    omega
  generalize hz : ((2 ^ t : Nat) : Int) = z at htwo hmul hsm
  generalize hz2 : 2 ^ t * w = N at *
  have hthings := things_comp ts (by omega) (fi := pItL (pVar 3)) (ρ := masked (startP 7 [.tuple [.int (t : Int), .int (w : Int), .int (st : Int)], .int (h : Int), .int (a : Int), encL ts, .int c])) rfl
  rw [filter_things] at hthings
  have hcomp : pComp (pCallL gRange1 (pCons (pCon (.int 2)) pNil)) (bd1 0) pTrue (pOfL (pCallL m__law_area (pCons (pVar 1) (pCons (pVar 0) (pCons (pOp dMul (pCall m__law_two (pCons (pOp dIx (pVar 3) (pCon (.int 0))) pNil)) (pOp dIx (pVar 3) (pCon (.int 1)))) (pCons (pVar 2) pNil)))))) 1 [4, 5, 0]
      (masked [.sh (.tuple [.int (t : Int), .int (w : Int), .int (st : Int)]), .sh (.int (h : Int)), .sh (.int (a : Int)), .sh (encL ts), .sh (.int c), .sh (.list ((things ts).map encP)), .no]) = some [encL A0, encL B0] := by
    refine (comp_eq (items := [.int 0, .int 1]) (by
      have : gRange1 [.int 2] = some [.int 0, .int 1] := by
        rw [show (PyData.int 2 : D) = .int ((2 : Nat) : Int) from rfl, gRange1_int _ ⟨by decide, by decide⟩]
        rfl
      walk_at "pu") (by decide)).trans ?_
    have hA' : m__law_area [.int c, .int 0, .int (N : Int), .list ((things ts).map encP)] = some (A0.map encD) := hA
    have hB' : m__law_area [.int c, .int 1, .int (N : Int), .list ((things ts).map encP)] = some (B0.map encD) := hB
    clear hthings hA hB hz hz2 bd
    simp only [compP, L2.compEnv, bd1, List.map_cons, List.map_nil, masked]
    walk_at "pu"
    rfl
  have lts := cutD_drop encD
  have hres : ∀ (A B : List Thing), some ([A, B, [some ((a : Int), (h : Int))]].map encL) = some [encL A, encL B, .list [.tuple [.int (a : Int), .int (h : Int)]]] := fun A B => rfl
  have hfl : ∀ A : List Thing, flatAll (A.map encD) = true := flat_Ts
  have run : ∀ (A B C : List Thing), (pSetI 6 (pVar 2) (vLS (pCat (pVar 3) (pOfL (pSl (pOp dIx (pVar 6) (pVar 2)) (pPart (pCall gLen (pCons (pVar 3) pNil))) pNoPart))))) [.sh (.tuple [.int (t : Int), .int (w : Int), .int (st : Int)]), .sh (.int (h : Int)), .sh (.int (a : Int)), .sh (encL ts), .sh (.int c), .sh (.list ((things ts).map encP)), .ow [encL A0, encL B0]]
      = some (.nx [.sh (.tuple [.int (t : Int), .int (w : Int), .int (st : Int)]), .sh (.int (h : Int)), .sh (.int (a : Int)), .sh (encL ts), .sh (.int c), .sh (.list ((things ts).map encP)), .ow [encL A, encL B]]) →
      m__law_disk [.tuple [.int (t : Int), .int (w : Int), .int (st : Int)], .int (h : Int), .int (a : Int), encL ts, .int c] = some ([A, B, [some ((a : Int), (h : Int))]].map encL) := by
    intro A B C hs
    refine runL_of rfl ?_
    unfold b__law_disk
    refine sq_nx (ρ' := [.sh (.tuple [.int (t : Int), .int (w : Int), .int (st : Int)]), .sh (.int (h : Int)), .sh (.int (a : Int)), .sh (encL ts), .sh (.int c), .sh (.list ((things ts).map encP)), .no]) ?_ ?_
    · show (vS (pOfL _) _).bind _ = _
      unfold vS pOfL
      rw [hthings]
      rfl
    · refine sq_nx (ρ' := [.sh (.tuple [.int (t : Int), .int (w : Int), .int (st : Int)]), .sh (.int (h : Int)), .sh (.int (a : Int)), .sh (encL ts), .sh (.int c), .sh (.list ((things ts).map encP)), .ow [encL A0, encL B0]]) ?_ ?_
      · show (vL _ _).bind _ = _
        unfold vL
        rw [hcomp]
        rfl
      · refine sq_nx hs ?_
        clear hs hcomp hthings hA hB
        walk_at "pu"
        rfl
  have eL : ∀ A : List Thing, asL (encL A) = some (A.map encD) := fun A => rfl
  have eln : gLen [encL ts] = some (.int (ts.length : Int)) := by show some (PyData.int ((ts.map encD).length : Int)) = _; rw [List.length_map]
  have hcat : ∀ A : List Thing, A.length = N → ts.length + (A.drop ts.length).length < 16777216 := fun A hA => by rw [List.length_drop]; omega
  match a, ha with
  | 0, _ =>
    refine ⟨ts ++ A0.drop ts.length, B0, A0.drop ts.length, run _ _ [] ?_, by rw [List.length_drop]; omega, .inl ⟨rfl, rfl, lB⟩⟩
    · have e1 := lts A0 ts.length
      have e2 := hcat A0 lA
      have e3 := hfl (ts ++ A0.drop ts.length)
      rw [List.map_append] at e3
      have e4 : dIx (.list [encL A0, encL B0]) (.int ((0 : Nat) : Int)) = some (encL A0) := rfl
      have e5 : ixN 2 ((0 : Nat) : Int) = some 0 := rfl
      have e6 : encL (ts ++ A0.drop ts.length) = .list (ts.map encD ++ (A0.drop ts.length).map encD) := by unfold encL; rw [List.map_append]
      rw [e6]
      clear run hres hcomp hthings hA hB hfl hcat lts
      walk_at "pu"
  | 1, _ =>
    refine ⟨A0, ts ++ B0.drop ts.length, B0.drop ts.length, run _ _ [] ?_, by rw [List.length_drop]; omega, .inr ⟨rfl, rfl, lA⟩⟩
    · have e1 := lts B0 ts.length
      have e2 := hcat B0 lB
      have e3 := hfl (ts ++ B0.drop ts.length)
      rw [List.map_append] at e3
      have e4 : dIx (.list [encL A0, encL B0]) (.int ((1 : Nat) : Int)) = some (encL B0) := rfl
      have e5 : ixN 2 ((1 : Nat) : Int) = some 1 := rfl
      have e6 : encL (ts ++ B0.drop ts.length) = .list (ts.map encD ++ (B0.drop ts.length).map encD) := by unfold encL; rw [List.map_append]
      rw [e6]
      clear run hres hcomp hthings hA hB hfl hcat lts
      walk_at "pu"
end S22
set_option maxHeartbeats 4000000
namespace S22
open PySem L2 LL
abbrev bdD (t w st : Nat) : D := .tuple [.int (t : Int), .int (w : Int), .int (st : Int)]
theorem sign_eq (t w st : Nat) (d : D) (h : Fits d) : m_is_sign [bdD t w st, d] = some (.bool (isSign t d)) := by
  have hp := pair_eq d h
  cases hb : isPair d with
  | false =>
    rw [hb] at hp
    have e : isSign t d = false := by
      unfold isSign
      split
      · cases hb
      · rfl
    rw [e]
    refine runF_of (o := .rt (.bool false)) rfl ?_ rfl
    unfold b_is_sign
    clear h e hb
    walk_at "pu"
  | true =>
    rw [hb] at hp
    obtain ⟨x, y, rfl⟩ : ∃ x y : Int, d = .tuple [.int x, .int y] := by
      unfold isPair at hb
      split at hb
      · rename_i x y
        obtain ⟨h1, h2⟩ := Bool.and_eq_true_iff.mp hb
        unfold isW at h1 h2
        split at h1
        · split at h2
          · exact ⟨_, _, rfl⟩
          · cases h2
        · cases h1
      · cases hb
    show _ = some (PyData.bool ((decide (0 ≤ x) && decide (x ≤ 1)) && (decide (0 ≤ y) && decide (y ≤ (t : Int)))))
    refine runF_of (o := .rt (.bool _)) rfl ?_ rfl
    unfold b_is_sign
    clear h hb
    by_cases c1 : 0 ≤ x <;> by_cases c2 : x ≤ 1 <;> by_cases c3 : 0 ≤ y <;> by_cases c4 : y ≤ (t : Int) <;> walk_at "pu"
def FitsAll : D → Prop
  | .list ds => ds.length < 16777216 ∧ ∀ x ∈ ds, Fits x
  | .tuple ds => ds.length < 16777216
  | _ => True
theorem FitsAll.fits {d : D} (h : FitsAll d) : Fits d := by
  cases d <;> first | exact h.1 | exact h | trivial
theorem FitsAll.items {d : D} (h : FitsAll d) : ∀ ds, d = .list ds → ∀ x ∈ ds, Fits x := by
  rintro ds rfl
  exact h.2
theorem form_list {t w st : Nat} (t4 : t ≤ 4) {a b s : D} (ha : FitsAll a) (hb : FitsAll b) (hs : FitsAll s) : m_has_form [bdD t w st, .list [a, b, s]] = some (.bool (hasForm (2 ^ t * w) t (.list [a, b, s]))) := by
  have hp := places_eq (t := (t : Int)) (w := w) (st := st) (h := t) t4
  have h1 := area_eq a (2 ^ t * w) ha.fits ha.items
  have h2 := area_eq b (2 ^ t * w) hb.fits hb.items
  show _ = some (PyData.bool ((isArea (2 ^ t * w) a && isArea (2 ^ t * w) b) && isSigns t s))
  generalize 2 ^ t * w = N at *
  have hl3 : gLen [.list [a, b, s]] = some (.int 3) := rfl
  have i0 : dIx (.list [a, b, s]) (.int 0) = some a := rfl
  have i1 : dIx (.list [a, b, s]) (.int 1) = some b := rfl
  have i2 : dIx (.list [a, b, s]) (.int 2) = some s := rfl
  have ty : tyD (.list [a, b, s]) = "list" := rfl
  refine runF_of (o := .rt (.bool _)) rfl ?_ rfl
  unfold b_has_form
  show pSq _ _ [.sh (bdD t w st), .sh (.list [a, b, s]), .no, .no] = _
  generalize PyData.list [a, b, s] = L at *
  refine sq_nx (ρ' := [.sh (bdD t w st), .sh L, .no, .no]) (by clear hp h1 h2 i0 i1 i2 ha hb hs; walk_at "pu") ?_
  refine sq_nx (ρ' := [.sh (bdD t w st), .sh L, .sh (.int (N : Int)), .no]) (by clear h1 h2 i0 i1 i2 ha hb hs hl3 ty; walk_at "pu") ?_
  clear hp
  cases qa : isArea N a with
  | false =>
    rw [qa] at h1
    refine sq_rt ?_
    clear h2 i1 i2 ha hb hs hl3 ty
    walk_at "pu"
  | true =>
    rw [qa] at h1
    cases qb : isArea N b with
    | false =>
      rw [qb] at h2
      refine sq_rt ?_
      clear i2 ha hb hs hl3 ty
      walk_at "pu"
    | true =>
      rw [qb] at h2
      refine sq_nx (ρ' := [.sh (bdD t w st), .sh L, .sh (.int (N : Int)), .no]) (by clear i2 ha hb hs hl3 ty; walk_at "pu") ?_
      refine sq_nx (ρ' := [.sh (bdD t w st), .sh L, .sh (.int (N : Int)), .sh s]) (by clear h1 h2 i0 i1 ha hb hs hl3 ty; walk_at "pu") ?_
      clear h1 h2 i0 i1 i2 hl3 ty ha hb
      show _ = some (Out.rt (.bool (isSigns t s)))
      cases s with
      | list ds =>
        match ds, hs with
        | [x], hs =>
          have hx := sign_eq t w st x (hs.2 x (.head _))
          have e1 : gLen [.list [x]] = some (.int 1) := rfl
          have e2 : dIx (.list [x]) (.int 0) = some x := rfl
          have e3 : tyD (.list [x]) = "list" := rfl
          show _ = some (Out.rt (.bool (isSign t x)))
          generalize PyData.list [x] = S at *
          clear hs
          walk_at "pu"
        | [], hs => rfl
        | x :: y :: r, hs =>
          have e1 : gLen [.list (x :: y :: r)] = some (.int ((x :: y :: r).length : Int)) := rfl
          have e2 : ¬ ((x :: y :: r).length : Int) = 1 := by simp; omega
          have e3 : tyD (.list (x :: y :: r)) = "list" := rfl
          show _ = some (Out.rt (.bool false))
          generalize PyData.list (x :: y :: r) = S at *
          generalize ((x :: y :: r).length : Int) = M at *
          clear hs
          walk_at "pu"
      | _ => rfl
theorem form_odd {t w st : Nat} {d : D} (h : Fits d) (ho : ∀ ds, d = .list ds → ds.length ≠ 3) : m_has_form [bdD t w st, d] = some (.bool false) := by
  refine runF_of (o := .rt (.bool false)) rfl ?_ rfl
  unfold b_has_form
  refine sq_rt ?_
  show pIfS _ _ _ [.sh (bdD t w st), .sh d, .no, .no] = _
  cases d with
  | list ds =>
    have e1 : gLen [.list ds] = some (.int (ds.length : Int)) := rfl
    have e2 : ¬ ((ds.length : Int) = 3) := by have := ho ds rfl; omega
    have e3 : tyD (.list ds) = "list" := rfl
    generalize PyData.list ds = S at *
    generalize (ds.length : Int) = M at *
    clear h ho
    walk_at "pu"
  | _ => rfl
theorem disk_no {t w st : Nat} {d : D} (h : m_has_form [bdD t w st, d] = some (.bool false)) : m_is_disk [bdD t w st, d] = some (.bool false) := by
  refine runF_of (o := .rt (.bool false)) rfl ?_ rfl
  unfold b_is_disk
  refine sq_rt ?_
  show pIfS _ _ _ [.sh (bdD t w st), .sh d, .no] = _
  generalize bdD t w st = B at *
  walk_at "pu"
theorem place_T (x : Thing) : isPlace (encD x) = true := by
  cases x <;> rfl
theorem fits_T (x : Thing) : Fits (encD x) := by
  cases x with
  | none => show ([] : List D).length < 16777216; decide
  | some p => show ([.int p.1, .int p.2] : List D).length < 16777216; simp
theorem all_T (ts : List Thing) : (ts.map encD).all isPlace = true := List.all_eq_true.mpr fun d hd => by
  obtain ⟨x, _, rfl⟩ := List.mem_map.mp hd
  exact place_T x
theorem area_T {ts : List Thing} {n : Nat} : isArea n (encL ts) = decide (ts.length = n) := by
  show (decide ((ts.map encD).length = n) && (ts.map encD).all isPlace) = _
  rw [all_T, Bool.and_true, List.length_map]
theorem fitsL {ts : List Thing} (h : ts.length < 16777216) : FitsAll (encL ts) := ⟨by rw [List.length_map]; exact h, fun d hd => by
  obtain ⟨x, _, rfl⟩ := List.mem_map.mp hd
  exact fits_T x⟩
theorem disk_eq {t w st n a h : Nat} {k : Dk} {A B : List Thing} (bd : Bd (t : Int) (w : Int) (st : Int)) (d : Dsk k (2 ^ t * w) a h A B) (ht : h ≤ t) :
    m_is_disk [bdD t w st, encK k] = some (.bool (decide (Rises (mendF (shelfF w k a h))) && decide ((((mendF (shelfF w k a h)).filter full').length : Int) ≤ 2 ^ h * ((w : Int) - (h : Int) * (st : Int))))) := by
  have t4 : t ≤ 4 := by have := bd.t4; omega
  have w20 : w ≤ 20 := by have := bd.hi; omega
  have hp : 2 ^ t ≤ 16 := by
    have : 2 ^ t ≤ 2 ^ 4 := Nat.pow_le_pow_right (by decide) t4
    omega
  have hN : 2 ^ t * w ≤ 320 := by
    have := Nat.mul_le_mul hp w20
    omega
  have s20 : st ≤ 20 := by
    have h1 := bd.lo
    have h2 := bd.t0
    have h3 : (st : Int) * 2 ≤ (st : Int) * ((t : Int) + 2) := Int.mul_le_mul_of_nonneg_left (by omega) (by omega)
    omega
  have ek : encK k = .list [encL A, encL B, encL [some ((a : Int), (h : Int))]] := by rw [d.eq]; rfl
  have hf : m_has_form [bdD t w st, encK k] = some (.bool true) := by
    rw [ek, form_list t4 (fitsL (by rw [d.lA]; omega)) (fitsL (by rw [d.lB]; omega)) (fitsL (by simp))]
    show some (PyData.bool ((isArea (2 ^ t * w) (encL A) && isArea (2 ^ t * w) (encL B)) && isSign t (encD (some ((a : Int), (h : Int)))))) = _
    rw [area_T, area_T, decide_eq_true d.lA, decide_eq_true d.lB]
    have a2 := d.a2
    show some (PyData.bool ((true && true) && ((decide (0 ≤ (a : Int)) && decide ((a : Int) ≤ 1)) && (decide (0 ≤ (h : Int)) && decide ((h : Int) ≤ (t : Int)))))) = _
    rw [decide_eq_true (by omega), decide_eq_true (by omega), decide_eq_true (by omega), decide_eq_true (by omega)]
    rfl
  have hs := shelf_on_eq (w := w) (st := st) (t := (t : Int)) d (by omega : h ≤ 4)
  have hlen : (shelfF w k a h).length < 16777216 := by
    unfold shelfF
    have := d.ar.2
    rw [List.length_take, this]
    omega
  have hso := sound_eq (shelfF w k a h) hlen
  have hro := rows_eq (shelfF w k a h) hlen
  have hh := height_on_eq d
  have hc := cap_eq (t := (t : Int)) (w := w) (st := st) (h := h) (by omega) s20
  generalize shelfF w k a h = S at *
  have hlr : gLen [.list (((mendF S).filter full').map encD)] = some (.int (((mendF S).filter full').length : Int)) := by
    show some (PyData.int ((((mendF S).filter full').map encD).length : Int)) = _
    rw [List.length_map]
  generalize encK k = E at *
  refine runF_of (o := .rt (.bool _)) rfl ?_ rfl
  unfold b_is_disk
  show pSq _ _ [.sh (bdD t w st), .sh E, .no] = _
  have e1 : ∀ ds : List D, asL (.list ds) = some ds := fun ds => rfl
  refine sq_nx (ρ' := [.sh (bdD t w st), .sh E, .no]) (by clear hs hso hro hh hc hlr ek; walk_at "pu") ?_
  refine sq_nx (ρ' := [.sh (bdD t w st), .sh E, .sh (.list (S.map encD))]) (by clear hf hso hro hh hc hlr ek; walk_at "pu") ?_
  clear hf hs ek
  generalize (2 : Int) ^ h * ((w : Int) - (h : Int) * (st : Int)) = C at *
  generalize S.map encD = SD at *
  generalize ((mendF S).filter full').map encD = RD at *
  generalize (((mendF S).filter full').length : Int) = M at *
  cases q1 : decide (Rises (mendF S)) with
  | false =>
    rw [q1] at hso
    clear hro hh hc hlr q1
    walk_at "pu"
  | true =>
    rw [q1] at hso
    clear q1
    walk_at "pu"
end S22
set_option maxHeartbeats 4000000
namespace S22
open PySem L2 LL
theorem copy_k {k : Dk} {n a h : Nat} {A B : List Thing} (d : Dsk k n a h A B) {fi : PAs} {ρ : PEnv} (e : fi ρ = some [encL A, encL B, encL [some ((a : Int), (h : Int))]]) :
    pComp fi (bd1 0) pTrue (pOfL (pCallL gList (pCons (pVar 0) pNil))) 1 [] ρ = some [encL A, encL B, encL [some ((a : Int), (h : Int))]] := by
  have := copyP (fi := fi) (ρ := ρ) (dss := dsK k) (by rw [e, d.eq]; rfl) (by rw [d.eq]; show 3 < 16777216; decide)
  rw [this, d.eq]
  rfl
theorem encK_D {k : Dk} {n a h : Nat} {A B : List Thing} (d : Dsk k n a h A B) : encK k = .list [encL A, encL B, encL [some ((a : Int), (h : Int))]] := by
  rw [d.eq]; rfl
theorem no_form {t w st : Nat} (t4 : t ≤ 4) {a b s : D} (ha : FitsAll a) (hb : FitsAll b) (hs : FitsAll s) (h : isArea (2 ^ t * w) a = false ∨ isArea (2 ^ t * w) b = false ∨ isSigns t s = false) : m_has_form [bdD t w st, .list [a, b, s]] = some (.bool false) := by
  rw [form_list t4 ha hb hs]
  show some (PyData.bool ((isArea (2 ^ t * w) a && isArea (2 ^ t * w) b) && isSigns t s)) = _
  rcases h with h | h | h
  · rw [h]; rfl
  · rw [h, Bool.and_false]; rfl
  · rw [h, Bool.and_false]
theorem fits_last (ts : List Thing) (h : ts.length < 16777215) : FitsAll (.list (ts.map encD ++ [.tuple []])) := by
  have e : ts.map encD ++ [PyData.tuple []] = (ts ++ [none]).map encD := by rw [List.map_append]; rfl
  rw [e]
  exact fitsL (by rw [List.length_append]; simp; omega)
theorem cut_last (ts : List Thing) : cutD (ts.map encD) none (some (-1)) = (ts.take (ts.length - 1)).map encD := by
  unfold cutD
  have e0 : HT.sIx (ts.map encD).length 0 none = 0 := rfl
  have e1 : HT.sIx (ts.map encD).length (ts.map encD).length (some (-1)) = ts.length - 1 := by
    simp only [HT.sIx, List.length_map]
    rw [if_pos (by decide)]
    omega
  rw [e0, e1, List.drop_zero, Nat.sub_zero, List.map_take]
theorem flat_encs (ts : List Thing) : flatD (.tuple (ts.map encD)) = true := by
  rw [flatD_tup]
  exact flat_Ts ts
theorem shape_no {t w st n a h : Nat} {k : Dk} {A B : List Thing} (t4 : t ≤ 4) (d : Dsk k (2 ^ t * w) a h A B) (hN : 2 ^ t * w ≤ 320) (hN1 : 1 ≤ 2 ^ t * w) (c : Int) : ∃ x, m__law_shape [encK k, .int c] = some x ∧ m_has_form [bdD t w st, x] = some (.bool false) := by
  rw [encK_D d]
  have m9 := m_pos c (b := 9) (by decide)
  have m2 := m_pos (c / 9) (b := 2) (by decide)
  have hcopy : ∀ (x1 x2 x3 : Option D), pComp (pItL (pVar 0)) (bd1 0) pTrue (pOfL (pCallL gList (pCons (pVar 0) pNil))) 1 [] [some (.list [encL A, encL B, encL [some ((a : Int), (h : Int))]]), x1, x2, x3] = some [encL A, encL B, encL [some ((a : Int), (h : Int))]] := fun x1 x2 x3 => copy_k d rfl
  have lA := d.lA
  have lB := d.lB
  have fA : FitsAll (encL A) := fitsL (by rw [lA]; omega)
  have fB : FitsAll (encL B) := fitsL (by rw [lB]; omega)
  have fS : FitsAll (encL [some ((a : Int), (h : Int))]) := fitsL (by simp)
  generalize hSG : encL [some ((a : Int), (h : Int))] = SG at *
  have start : ∀ o, (pSq (pSet 3 (vS (pOp dMod (pOp dDiv (pVar 1) (pCon (.int 9))) (pCon (.int 2)))))
    (pSq (pIfS (pTest (pOp dLt (pOp dMod (pVar 1) (pCon (.int 9))) (pCon (.int 5))))
      (pRet (pOp dIx (pOfL (pLst (pCons (pCon .none) (pCons (pCon (.int 7)) (pCons (pCall gTuple (pCons (pVar 2) pNil)) (pCons (pOfL (pSl (pVar 2) pNoPart (pPart (pCon (.int 2))))) (pCons (pOfL (pCat (pVar 2) (pOfL (pLst (pCons (pOfL (pLst pNil)) pNil))))) pNil))))))) (pOp dMod (pVar 1) (pCon (.int 9))))) pNx)
    (pSq (pIfS (pTest (pOp dEq (pOp dMod (pVar 1) (pCon (.int 9))) (pCon (.int 5))))
      (pSetI 2 (pVar 3) (vLS (pCat (pOp dIx (pVar 2) (pVar 3)) (pOfL (pLst (pCons (pTup pNil) pNil)))))) pNx)
    (pSq (pIfS (pTest (pOp dEq (pOp dMod (pVar 1) (pCon (.int 9))) (pCon (.int 6))))
      (pSetI 2 (pVar 3) (vLS (pSl (pOp dIx (pVar 2) (pVar 3)) pNoPart (pPart (pUn dNeg (pCon (.int 1))))))) pNx)
    (pSq (pIfS (pTest (pOp dGt (pOp dMod (pVar 1) (pCon (.int 9))) (pCon (.int 6))))
      (pSetI 2 (pVar 3) (vF (pOp dIx (pOfL (pLst (pCons (pCall gTuple (pCons (pOp dIx (pVar 2) (pVar 3)) pNil)) (pCons (pCon .none) pNil)))) (pOp dSub (pOp dMod (pVar 1) (pCon (.int 9))) (pCon (.int 7)))))) pNx)
    (pRet (pVar 2))))))) [.sh (.list [encL A, encL B, SG]), .sh (.int c), .ow [encL A, encL B, SG], .no] = some (.rt o) → m__law_shape [.list [encL A, encL B, SG], .int c] = some o := by
    intro o ho
    refine runF_of (o := .rt o) rfl ?_ rfl
    unfold b__law_shape
    refine sq_nx (ρ' := [.sh (.list [encL A, encL B, SG]), .sh (.int c), .ow [encL A, encL B, SG], .no]) ?_ ho
    show (vL _ _).bind _ = _
    unfold vL
    show Option.bind ((pComp (pItL (pVar 0)) (bd1 0) pTrue (pOfL (pCallL gList (pCons (pVar 0) pNil))) 1 [] [some (.list [encL A, encL B, SG]), some (.int c), none, none]).bind _) _ = _
    rw [hcopy]
    rfl
  by_cases c5 : c % 9 < 5
  · obtain ⟨v, hv, ev⟩ := at_mem ([.none, .int 7, .tuple [encL A, encL B, SG], .list [encL A, encL B], .list [encL A, encL B, SG, .list []]] : List D) (i := c % 9) m9.1 c5
    refine ⟨v, start v ?_, ?_⟩
    · have ecut : cutD [encL A, encL B, SG] none (some 2) = [encL A, encL B] := rfl
      have et : gTuple [.list [encL A, encL B, SG]] = some (.tuple [encL A, encL B, SG]) := rfl
      generalize encL A = LA at *
      generalize encL B = LB at *
      clear start hv hcopy
      refine sq_nx (ρ' := [.sh (.list [LA, LB, SG]), .sh (.int c), .ow [LA, LB, SG], .sh (.int (c / 9 % 2))]) (by clear ev ecut et; walk_at "pu") ?_
      refine sq_rt ?_
      walk_at "pu"
    · simp only [List.mem_cons, List.mem_nil_iff, or_false] at hv
      rcases hv with rfl | rfl | rfl | rfl | rfl
      · exact form_odd trivial (fun ds z => by cases z)
      · exact form_odd trivial (fun ds z => by cases z)
      · exact form_odd (show 3 < 16777216 by decide) (fun ds z => by cases z)
      · exact form_odd (show 2 < 16777216 by decide) (fun ds z => by cases z; show 2 ≠ 3; decide)
      · exact form_odd (show 4 < 16777216 by decide) (fun ds z => by cases z; show 4 ≠ 3; decide)
  have hstep : ∀ o, (pSq (pIfS (pTest (pOp dEq (pOp dMod (pVar 1) (pCon (.int 9))) (pCon (.int 5))))
      (pSetI 2 (pVar 3) (vLS (pCat (pOp dIx (pVar 2) (pVar 3)) (pOfL (pLst (pCons (pTup pNil) pNil)))))) pNx)
    (pSq (pIfS (pTest (pOp dEq (pOp dMod (pVar 1) (pCon (.int 9))) (pCon (.int 6))))
      (pSetI 2 (pVar 3) (vLS (pSl (pOp dIx (pVar 2) (pVar 3)) pNoPart (pPart (pUn dNeg (pCon (.int 1))))))) pNx)
    (pSq (pIfS (pTest (pOp dGt (pOp dMod (pVar 1) (pCon (.int 9))) (pCon (.int 6))))
      (pSetI 2 (pVar 3) (vF (pOp dIx (pOfL (pLst (pCons (pCall gTuple (pCons (pOp dIx (pVar 2) (pVar 3)) pNil)) (pCons (pCon .none) pNil)))) (pOp dSub (pOp dMod (pVar 1) (pCon (.int 9))) (pCon (.int 7)))))) pNx)
    (pRet (pVar 2))))) [.sh (.list [encL A, encL B, SG]), .sh (.int c), .ow [encL A, encL B, SG], .sh (.int (c / 9 % 2))] = some (.rt o) → m__law_shape [.list [encL A, encL B, SG], .int c] = some o := by
    intro o ho
    refine start o ?_
    clear start hcopy
    generalize encL A = LA at *
    generalize encL B = LB at *
    refine sq_nx (ρ' := [.sh (.list [LA, LB, SG]), .sh (.int c), .ow [LA, LB, SG], .sh (.int (c / 9 % 2))]) (by clear ho; walk_at "pu") ?_
    refine sq_nx (ρ' := [.sh (.list [LA, LB, SG]), .sh (.int c), .ow [LA, LB, SG], .sh (.int (c / 9 % 2))]) (by clear ho; walk_at "pu") ho
  clear start hcopy
  have two : c / 9 % 2 = 0 ∨ c / 9 % 2 = 1 := by omega
  have fin : ∀ (X : List Thing → D), (∀ (Z Y : List Thing) (i : Int), (i = 0 ∧ Z = A ∨ i = 1 ∧ Z = B) → ∃ o, (pSq (pIfS (pTest (pOp dEq (pOp dMod (pVar 1) (pCon (.int 9))) (pCon (.int 5))))
      (pSetI 2 (pVar 3) (vLS (pCat (pOp dIx (pVar 2) (pVar 3)) (pOfL (pLst (pCons (pTup pNil) pNil)))))) pNx)
    (pSq (pIfS (pTest (pOp dEq (pOp dMod (pVar 1) (pCon (.int 9))) (pCon (.int 6))))
      (pSetI 2 (pVar 3) (vLS (pSl (pOp dIx (pVar 2) (pVar 3)) pNoPart (pPart (pUn dNeg (pCon (.int 1))))))) pNx)
    (pSq (pIfS (pTest (pOp dGt (pOp dMod (pVar 1) (pCon (.int 9))) (pCon (.int 6))))
      (pSetI 2 (pVar 3) (vF (pOp dIx (pOfL (pLst (pCons (pCall gTuple (pCons (pOp dIx (pVar 2) (pVar 3)) pNil)) (pCons (pCon .none) pNil)))) (pOp dSub (pOp dMod (pVar 1) (pCon (.int 9))) (pCon (.int 7)))))) pNx)
    (pRet (pVar 2))))) [.sh (.list [encL A, encL B, SG]), .sh (.int c), .ow [encL A, encL B, SG], .sh (.int i)] = some (.rt o) ∧ o = .list (([encL A, encL B, SG] : List D).set i.toNat (X Z))) →
      (∀ Z : List Thing, Z.length = 2 ^ t * w → FitsAll (X Z) ∧ isArea (2 ^ t * w) (X Z) = false) → ∃ x, m__law_shape [.list [encL A, encL B, SG], .int c] = some x ∧ m_has_form [bdD t w st, x] = some (.bool false) := by
    intro X h1 h2
    rcases two with e | e
    · obtain ⟨o, ho, eo⟩ := h1 A A 0 (.inl ⟨rfl, rfl⟩)
      refine ⟨o, hstep o (by rw [e]; exact ho), ?_⟩
      rw [eo]
      obtain ⟨q1, q2⟩ := h2 A lA
      exact no_form t4 q1 fB fS (.inl q2)
    · obtain ⟨o, ho, eo⟩ := h1 B B 1 (.inr ⟨rfl, rfl⟩)
      refine ⟨o, hstep o (by rw [e]; exact ho), ?_⟩
      rw [eo]
      obtain ⟨q1, q2⟩ := h2 B lB
      exact no_form t4 fA q1 fS (.inr (.inl q2))
  have fl : ∀ Z : List Thing, flatAll (Z.map encD) = true := flat_Ts
  have pick : ∀ (Z : List Thing) (i : Int), (i = 0 ∧ Z = A ∨ i = 1 ∧ Z = B) → dIx (.list [encL A, encL B, SG]) (.int i) = some (encL Z) ∧ ixN 3 i = some i.toNat := by
    intro Z i hi
    rcases hi with ⟨rfl, rfl⟩ | ⟨rfl, rfl⟩
    · exact ⟨rfl, rfl⟩
    · exact ⟨rfl, rfl⟩
  have aslL : ∀ Z : List Thing, asL (encL Z) = some (Z.map encD) := fun Z => rfl
  have n56 : decide ((5 : Int) = 6) = false := rfl
  have n65 : decide ((6 : Int) = 5) = false := rfl
  have n75 : decide ((7 : Int) = 5) = false := rfl
  have n76 : decide ((7 : Int) = 6) = false := rfl
  have n85 : decide ((8 : Int) = 5) = false := rfl
  have n86 : decide ((8 : Int) = 6) = false := rfl
  rcases (by omega : c % 9 = 5 ∨ c % 9 = 6 ∨ c % 9 = 7 ∨ c % 9 = 8) with e | e | e | e
  · refine fin (fun Z => .list (Z.map encD ++ [.tuple []])) (fun Z Y i hi => ⟨_, ?_, rfl⟩) fun Z hZ => ⟨fits_last Z (by omega), ?_⟩
    · obtain ⟨p1, p2⟩ := pick Z i hi
      have hcat : (Z.map encD ++ [PyData.tuple []]) = (Z ++ [none]).map encD := by rw [List.map_append]; rfl
      have ff := fl (Z ++ [none])
      rw [← hcat] at ff
      have a1 := aslL Z
      have hlz : (Z.map encD).length + 1 < 16777216 := by
        rw [List.length_map]
        rcases hi with ⟨_, rfl⟩ | ⟨_, rfl⟩ <;> omega
      clear hi fin hstep pick aslL fl fA fB fS hSG hcat
      generalize encL A = LA at *
      generalize encL B = LB at *
      generalize encL Z = LZ at *
      generalize Z.map encD = DZ at *
      refine sq_nx (ρ' := [.sh (.list [LA, LB, SG]), .sh (.int c), .ow (([LA, LB, SG] : List D).set i.toNat (.list (DZ ++ [.tuple []]))), .sh (.int i)]) (by walk_at "pu") ?_
      clear p1 p2 a1 ff hlz
      generalize ([LA, LB, SG] : List D).set i.toNat (.list (DZ ++ [.tuple []])) = OW at *
      walk_at "pu"
    · have : isArea (2 ^ t * w) (.list (Z.map encD ++ [.tuple []])) = (decide ((Z.map encD ++ [PyData.tuple []]).length = 2 ^ t * w) && (Z.map encD ++ [PyData.tuple []]).all isPlace) := rfl
      rw [this, decide_eq_false (by rw [List.length_append, List.length_map, hZ]; simp)]
      rfl
  · refine fin (fun Z => encL (Z.take (Z.length - 1))) (fun Z Y i hi => ⟨_, ?_, rfl⟩) fun Z hZ => ⟨fitsL (by rw [List.length_take]; omega), ?_⟩
    · obtain ⟨p1, p2⟩ := pick Z i hi
      have ff := fl (Z.take (Z.length - 1))
      have a1 := aslL Z
      have hcut := cut_last Z
      have eL : encL (Z.take (Z.length - 1)) = .list ((Z.take (Z.length - 1)).map encD) := rfl
      rw [eL]
      clear hi fin hstep pick aslL fl fA fB fS hSG eL
      generalize encL A = LA at *
      generalize encL B = LB at *
      generalize encL Z = LZ at *
      generalize Z.map encD = DZ at *
      generalize (Z.take (Z.length - 1)).map encD = CZ at *
      refine sq_nx (ρ' := [.sh (.list [LA, LB, SG]), .sh (.int c), .ow [LA, LB, SG], .sh (.int i)]) (by clear p1 p2 a1 ff hcut; walk_at "pu") ?_
      refine sq_nx (ρ' := [.sh (.list [LA, LB, SG]), .sh (.int c), .ow (([LA, LB, SG] : List D).set i.toNat (.list CZ)), .sh (.int i)]) (by walk_at "pu") ?_
      clear p1 p2 a1 ff hcut
      generalize ([LA, LB, SG] : List D).set i.toNat (.list CZ) = OW at *
      walk_at "pu"
    · rw [area_T, decide_eq_false (by rw [List.length_take, hZ]; omega)]
  · refine fin (fun Z => .tuple (Z.map encD)) (fun Z Y i hi => ⟨_, ?_, rfl⟩) fun Z hZ => ⟨show (Z.map encD).length < 16777216 by rw [List.length_map]; omega, rfl⟩
    · obtain ⟨p1, p2⟩ := pick Z i hi
      have ff := flat_encs Z
      have g1 : gTuple [encL Z] = some (.tuple (Z.map encD)) := rfl
      have g2 : dIx (.list [.tuple (Z.map encD), .none]) (.int 0) = some (.tuple (Z.map encD)) := rfl
      have e7 : (7 : Int) - 7 = 0 := rfl
      clear hi fin hstep pick aslL fl fA fB fS hSG
      generalize encL A = LA at *
      generalize encL B = LB at *
      generalize encL Z = LZ at *
      generalize PyData.tuple (Z.map encD) = TZ at *
      refine sq_nx (ρ' := [.sh (.list [LA, LB, SG]), .sh (.int c), .ow [LA, LB, SG], .sh (.int i)]) (by clear p1 p2 g1 g2 ff; walk_at "pu") ?_
      refine sq_nx (ρ' := [.sh (.list [LA, LB, SG]), .sh (.int c), .ow [LA, LB, SG], .sh (.int i)]) (by clear p1 p2 g1 g2 ff; walk_at "pu") ?_
      refine sq_nx (ρ' := [.sh (.list [LA, LB, SG]), .sh (.int c), .ow (([LA, LB, SG] : List D).set i.toNat TZ), .sh (.int i)]) (by walk_at "pu") ?_
      clear p1 p2 g1 g2 ff
      generalize ([LA, LB, SG] : List D).set i.toNat TZ = OW at *
      walk_at "pu"
  · refine fin (fun Z => .none) (fun Z Y i hi => ⟨_, ?_, rfl⟩) fun Z hZ => ⟨trivial, rfl⟩
    · obtain ⟨p1, p2⟩ := pick Z i hi
      have g1 : gTuple [encL Z] = some (.tuple (Z.map encD)) := rfl
      have g2 : dIx (.list [.tuple (Z.map encD), .none]) (.int 1) = some .none := rfl
      have e7 : (8 : Int) - 7 = 1 := rfl
      clear hi fin hstep pick aslL fl fA fB fS hSG
      generalize encL A = LA at *
      generalize encL B = LB at *
      generalize encL Z = LZ at *
      generalize PyData.tuple (Z.map encD) = TZ at *
      refine sq_nx (ρ' := [.sh (.list [LA, LB, SG]), .sh (.int c), .ow [LA, LB, SG], .sh (.int i)]) (by clear p1 p2 g1 g2; walk_at "pu") ?_
      refine sq_nx (ρ' := [.sh (.list [LA, LB, SG]), .sh (.int c), .ow [LA, LB, SG], .sh (.int i)]) (by clear p1 p2 g1 g2; walk_at "pu") ?_
      refine sq_nx (ρ' := [.sh (.list [LA, LB, SG]), .sh (.int c), .ow (([LA, LB, SG] : List D).set i.toNat .none), .sh (.int i)]) (by walk_at "pu") ?_
      clear p1 p2 g1 g2
      generalize ([LA, LB, SG] : List D).set i.toNat PyData.none = OW at *
      walk_at "pu"
end S22
set_option maxHeartbeats 4000000
namespace S22
open PySem L2 LL
def oddS (t a h : Int) : List D := [.list [], .list [.tuple [.int a, .int h], .tuple [.int a, .int h]], .list [.list [.int a, .int h]], .list [.tuple [.int a]], .list [.tuple [.int 2, .int h]], .list [.tuple [.int (-1), .int h]]]
def oddS2 (t a h : Int) : List D := [.list [.tuple [.int a, .int (t + 1)]], .list [.tuple [.int a, .int (-1)]], .list [.tuple [.bool (a != 0), .int h]], .list [.none], .tuple [.tuple [.int a, .int h]], .dict []]
def oddS3 (a : Int) : List D := [.list [.tuple [.int a, .bool false]]]
theorem oddS_no (t a h : Nat) : ∀ o ∈ oddS t a h ++ oddS2 t a h ++ oddS3 a, FitsAll o ∧ isSigns t o = false := by
  intro o ho
  simp only [oddS, oddS2, oddS3, List.cons_append, List.nil_append, List.mem_cons, List.mem_nil_iff, or_false] at ho
  have f1 : ∀ x : D, Fits x → FitsAll (.list [x]) := fun x hx => ⟨show 1 < 16777216 by decide, fun y hy => by rw [List.mem_singleton.mp hy]; exact hx⟩
  have f2 : ∀ x y : D, Fits (.tuple [x, y]) := fun x y => show 2 < 16777216 by decide
  have sg : ∀ x y : Int, isSigns t (.list [.tuple [.int x, .int y]]) = ((decide (0 ≤ x) && decide (x ≤ 1)) && (decide (0 ≤ y) && decide (y ≤ (t : Int)))) := fun x y => rfl
  rcases ho with rfl | rfl | rfl | rfl | rfl | rfl | rfl | rfl | rfl | rfl | rfl | rfl | rfl
  · exact ⟨⟨show 0 < 16777216 by decide, fun y hy => by cases hy⟩, rfl⟩
  · exact ⟨⟨show 2 < 16777216 by decide, fun y hy => by
      rcases List.mem_cons.mp hy with rfl | hy
      · exact f2 _ _
      · rw [List.mem_singleton.mp hy]; exact f2 _ _⟩, rfl⟩
  · exact ⟨f1 _ (show 2 < 16777216 by decide), rfl⟩
  · exact ⟨f1 _ (show 1 < 16777216 by decide), rfl⟩
  · exact ⟨f1 _ (f2 _ _), by rw [sg]; rfl⟩
  · exact ⟨f1 _ (f2 _ _), by rw [sg]; rfl⟩
  · exact ⟨f1 _ (f2 _ _), by rw [sg, decide_eq_false (by omega : ¬ ((t : Int) + 1 ≤ (t : Int))), Bool.and_false, Bool.and_false]⟩
  · exact ⟨f1 _ (f2 _ _), by rw [sg, decide_eq_false (by omega : ¬ (0 : Int) ≤ -1), Bool.false_and, Bool.and_false]⟩
  · exact ⟨f1 _ (f2 _ _), rfl⟩
  · exact ⟨f1 _ trivial, rfl⟩
  · exact ⟨show 1 < 16777216 by decide, rfl⟩
  · exact ⟨trivial, rfl⟩
  · exact ⟨f1 _ (f2 _ _), rfl⟩
theorem sign_no {t w st a h : Nat} {k : Dk} {A B : List Thing} (t4 : t ≤ 4) (d : Dsk k (2 ^ t * w) a h A B) (hN : 2 ^ t * w ≤ 320) (c : Int) : ∃ x, m__law_sign [bdD t w st, encK k, .int c] = some x ∧ m_has_form [bdD t w st, .list x] = some (.bool false) := by
  rw [encK_D d]
  have m13 := m_pos c (b := 13) (by decide)
  have hcopy : ∀ (x2 x3 x4 x5 x6 : Option D), pComp (pItL (pVar 1)) (bd1 0) pTrue (pOfL (pCallL gList (pCons (pVar 0) pNil))) 1 [] [some (bdD t w st), some (.list [encL A, encL B, encL [some ((a : Int), (h : Int))]]), x2, x3, x4, x5, x6] = some [encL A, encL B, encL [some ((a : Int), (h : Int))]] := fun x2 x3 x4 x5 x6 => copy_k d rfl
  have fA : FitsAll (encL A) := fitsL (by rw [d.lA]; omega)
  have fB : FitsAll (encL B) := fitsL (by rw [d.lB]; omega)
  obtain ⟨o, ho, eo⟩ := at_mem (oddS t a h ++ oddS2 t a h ++ oddS3 a) (i := c % 13) m13.1 m13.2
  obtain ⟨q1, q2⟩ := oddS_no t a h o ho
  refine ⟨[encL A, encL B, o], ?_, no_form t4 fA fB q1 (.inr (.inr q2))⟩
  have hix : dIx (.list [encL A, encL B, encL [some ((a : Int), (h : Int))]]) (.int 2) = some (encL [some ((a : Int), (h : Int))]) := rfl
  have hix2 : dIx (encL [some ((a : Int), (h : Int))]) (.int 0) = some (.tuple [.int (a : Int), .int (h : Int)]) := rfl
  have hset : ([encL A, encL B, encL [some ((a : Int), (h : Int))]] : List D).set 2 o = [encL A, encL B, o] := rfl
  have hx2 : ixN 3 2 = some 2 := rfl
  have hl6 : (oddS t a h).length = 6 := rfl
  have hl12 : (oddS t a h ++ oddS2 t a h).length = 12 := rfl
  refine runL_of rfl ?_
  unfold b__law_sign
  generalize encL [some ((a : Int), (h : Int))] = SG at *
  generalize encL A = LA at *
  generalize encL B = LB at *
  generalize hal : (a : Int) = av at *
  generalize hhl : (h : Int) = hv at *
  have e1 : oddS t av hv = [.list [], .list [.tuple [.int av, .int hv], .tuple [.int av, .int hv]], .list [.list [.int av, .int hv]], .list [.tuple [.int av]], .list [.tuple [.int 2, .int hv]], .list [.tuple [.int (-1), .int hv]]] := rfl
  have e2 : oddS2 t av hv = [.list [.tuple [.int av, .int ((t : Int) + 1)]], .list [.tuple [.int av, .int (-1)]], .list [.tuple [.bool (av != 0), .int hv]], .list [.none], .tuple [.tuple [.int av, .int hv]], .dict []] := rfl
  have e3 : oddS3 av = [.list [.tuple [.int av, .bool false]]] := rfl
  have eb : gBool [.int av] = some (.bool (av != 0)) := rfl
  refine sq_nx (ρ' := [.sh (bdD t w st), .sh (.list [LA, LB, SG]), .sh (.int c), .ow [LA, LB, SG], .no, .no, .no]) ?_ ?_
  · show (vL _ _).bind _ = _
    unfold vL
    show Option.bind ((pComp (pItL (pVar 1)) (bd1 0) pTrue (pOfL (pCallL gList (pCons (pVar 0) pNil))) 1 [] [some (bdD t w st), some (.list [LA, LB, SG]), some (.int c), none, none, none, none]).bind _) _ = _
    rw [hcopy]
    rfl
  clear hcopy fA fB ho q1 q2
  refine sq_nx (ρ' := [.sh (bdD t w st), .sh (.list [LA, LB, SG]), .sh (.int c), .ow [LA, LB, SG], .sh (.int av), .sh (.int hv), .no]) ?_ ?_
  · show Option.bind (vS _ _) _ = _
    unfold vS
    show Option.bind (Option.bind (pOp dIx (pOp dIx (pVar 1) (pCon (.int 2))) (pCon (.int 0)) [some (bdD t w st), some (.list [LA, LB, SG]), some (.int c), none, none, none, none]) _) _ = _
    have : pOp dIx (pOp dIx (pVar 1) (pCon (.int 2))) (pCon (.int 0)) [some (bdD t w st), some (.list [LA, LB, SG]), some (.int c), none, none, none, none] = some (.tuple [.int av, .int hv]) := by
      show Option.bind (dIx (.list [LA, LB, SG]) (.int 2)) (fun x => dIx x (.int 0)) = _
      rw [hix]
      exact hix2
    rw [this]
    rfl
  clear hix hix2
  refine sq_nx (ρ' := [.sh (bdD t w st), .sh (.list [LA, LB, SG]), .sh (.int c), .ow [LA, LB, SG], .sh (.int av), .sh (.int hv), .sh (.list (oddS t av hv))]) (by clear eo hset hx2 hl6 hl12 e2 e3 eb; walk_at "pu") ?_
  clear e1
  refine sq_nx (ρ' := [.sh (bdD t w st), .sh (.list [LA, LB, SG]), .sh (.int c), .ow [LA, LB, SG], .sh (.int av), .sh (.int hv), .sh (.list (oddS t av hv ++ oddS2 t av hv))]) (by rw [e2]; clear eo hset hx2 hl12 e3 e2; generalize oddS t av hv = O1 at *; walk_at "pu") ?_
  refine sq_nx (ρ' := [.sh (bdD t w st), .sh (.list [LA, LB, SG]), .sh (.int c), .ow [LA, LB, o], .sh (.int av), .sh (.int hv), .sh (.list (oddS t av hv ++ oddS2 t av hv))]) (by
    rw [e3] at eo
    clear e2 e3 hl6 eb
    generalize oddS t av hv ++ oddS2 t av hv = O2 at *
    walk_at "pu") ?_
  rfl
def oddP : List D := [.none, .int 0, .str "", .str "3,7", .list [], .list [.int 3, .int 7], .tuple [.int 3], .tuple [.int 3, .int 7, .int 1], .tuple [.bool true, .int 7], .tuple [.int 3, .bool true], .tuple [.int 3, .str "7"], .tuple [.none, .int 7], .tuple [.tuple [], .tuple []]]
theorem oddP_no : ∀ o ∈ oddP, Fits o ∧ isPlace o = false := by
  intro o ho
  simp only [oddP, List.mem_cons, List.mem_nil_iff, or_false] at ho
  rcases ho with rfl | rfl | rfl | rfl | rfl | rfl | rfl | rfl | rfl | rfl | rfl | rfl | rfl
  · exact ⟨trivial, rfl⟩
  · exact ⟨trivial, rfl⟩
  · exact ⟨trivial, rfl⟩
  · exact ⟨trivial, rfl⟩
  · exact ⟨show 0 < 16777216 by decide, rfl⟩
  · exact ⟨show 2 < 16777216 by decide, rfl⟩
  · exact ⟨show 1 < 16777216 by decide, rfl⟩
  · exact ⟨show 3 < 16777216 by decide, rfl⟩
  · exact ⟨show 2 < 16777216 by decide, rfl⟩
  · exact ⟨show 2 < 16777216 by decide, rfl⟩
  · exact ⟨show 2 < 16777216 by decide, rfl⟩
  · exact ⟨show 2 < 16777216 by decide, rfl⟩
  · exact ⟨show 2 < 16777216 by decide, rfl⟩
theorem set_no {ts : List Thing} {n j : Nat} {o : D} (hj : j < ts.length) (hl : ts.length < 16777216) (f : Fits o) (h : isPlace o = false) : FitsAll (.list ((ts.map encD).set j o)) ∧ isArea n (.list ((ts.map encD).set j o)) = false := by
  refine ⟨⟨by rw [List.length_set, List.length_map]; exact hl, fun x hx => ?_⟩, ?_⟩
  · rcases List.mem_or_eq_of_mem_set hx with hx | rfl
    · obtain ⟨y, _, rfl⟩ := List.mem_map.mp hx
      exact fits_T y
    · exact f
  · show (decide (((ts.map encD).set j o).length = n) && ((ts.map encD).set j o).all isPlace) = false
    have : ((ts.map encD).set j o).all isPlace = false := by
      rw [List.all_eq_false]
      exact ⟨o, (List.mem_set (l := ts.map encD) (i := j) (by rw [List.length_map]; exact hj) o), by rw [h]; decide⟩
    rw [this, Bool.and_false]
theorem runN_of {n m : Nat} {F : PSt} {ds : List D} {es : List (List D)} (h : ds.length = n) (e : F (startP m ds) = some (.rn es)) : runN n m F ds = some es := by
  unfold L2.runN
  rw [if_pos h, e]
  rfl
theorem place_no {t w st a h : Nat} {k : Dk} {A B : List Thing} (t4 : t ≤ 4) (d : Dsk k (2 ^ t * w) a h A B) (hN : 2 ^ t * w ≤ 320) (hN1 : 1 ≤ 2 ^ t * w) (c : Int) : ∃ x, m__law_place [encK k, .int c] = some x ∧ m_has_form [bdD t w st, .list (x.map PyData.list)] = some (.bool false) := by
  rw [encK_D d]
  have m2 := m_pos c (b := 2) (by decide)
  have m13 := m_pos (c / 2000) (b := 13) (by decide)
  have fA : FitsAll (encL A) := fitsL (by rw [d.lA]; omega)
  have fB : FitsAll (encL B) := fitsL (by rw [d.lB]; omega)
  have fS : FitsAll (encL [some ((a : Int), (h : Int))]) := fitsL (by simp)
  have lA := d.lA
  have lB := d.lB
  have hcopy : ∀ (x1 x2 x3 x4 x5 : Option D), pCompN (pItL (pVar 0)) (bd1 0) pTrue (pCallL gList (pCons (pVar 0) pNil)) 1 [] [some (.list [encL A, encL B, encL [some ((a : Int), (h : Int))]]), x1, x2, x3, x4, x5] = some [A.map encD, B.map encD, [some ((a : Int), (h : Int))].map encD] := fun x1 x2 x3 x4 x5 => copyN rfl (by simp)
  obtain ⟨o, ho, eo⟩ := at_mem oddP (i := c / 2000 % 13) m13.1 m13.2
  obtain ⟨q1, q2⟩ := oddP_no o ho
  have key : ∀ (u : Nat) (Z : List Thing), (c % 2 = (u : Int)) → u < 3 → ([A, B, [some ((a : Int), (h : Int))]] : List (List Thing))[u]? = some Z → Z.length = 2 ^ t * w → ∃ j, j < Z.length ∧ m__law_place [.list [encL A, encL B, encL [some ((a : Int), (h : Int))]], .int c] = some (([A.map encD, B.map encD, [some ((a : Int), (h : Int))].map encD] : List (List D)).set u ((Z.map encD).set j o)) := by
    intro u Z hu u3 hZ lZ
    have mN := m_pos (c / 2) (b := ((2 ^ t * w : Nat) : Int)) (by omega)
    obtain ⟨j, hj⟩ := Int.eq_ofNat_of_zero_le mN.1
    have jl : j < 2 ^ t * w := by omega
    refine ⟨j, by rw [lZ]; exact jl, ?_⟩
    have g1 : ([A.map encD, B.map encD, [some ((a : Int), (h : Int))].map encD] : List (List D))[u]? = some (Z.map encD) := by
      have := congrArg (Option.map fun z : List Thing => z.map encD) hZ
      rw [← List.getElem?_map] at this
      exact this
    have g2 : atI ([A.map encD, B.map encD, [some ((a : Int), (h : Int))].map encD].map PyData.list) (u : Int) = some (.list (Z.map encD)) := by
      refine atI_nat' ?_
      rw [List.getElem?_map, g1]
      rfl
    have i1 := ixN_nat (n := 3) (j := u) u3
    have i2 := ixN_nat (n := 2 ^ t * w) (j := j) jl
    have l3 : ([A.map encD, B.map encD, [some ((a : Int), (h : Int))].map encD] : List (List D)).length = 3 := rfl
    have lz : (Z.map encD).length = 2 ^ t * w := by rw [List.length_map]; exact lZ
    have p1 : (0 : Int) < ((2 ^ t * w : Nat) : Int) := by omega
    have p2 : ((2 ^ t * w : Nat) : Int) < 1073741824 := by omega
    have hd : dMod (.int (c / 2)) (.int ((2 ^ t * w : Nat) : Int)) = some (.int (j : Int)) := by rw [dMod_int, if_pos p1, hj]
    generalize 2 ^ t * w = N at *
    refine runN_of rfl ?_
    unfold b__law_place
    refine sq_nx (ρ' := [.sh (.list [encL A, encL B, encL [some ((a : Int), (h : Int))]]), .sh (.int c), .on [A.map encD, B.map encD, [some ((a : Int), (h : Int))].map encD], .no, .no, .no]) ?_ ?_
    · show (vN _ _).bind _ = _
      unfold vN
      show Option.bind ((pCompN (pItL (pVar 0)) (bd1 0) pTrue (pCallL gList (pCons (pVar 0) pNil)) 1 [] [some (.list [encL A, encL B, encL [some ((a : Int), (h : Int))]]), some (.int c), none, none, none, none]).bind _) _ = _
      rw [hcopy]
      rfl
    have eo' : oddP = [.none, .int 0, .str "", .str "3,7", .list [], .list [.int 3, .int 7], .tuple [.int 3], .tuple [.int 3, .int 7, .int 1], .tuple [.bool true, .int 7], .tuple [.int 3, .bool true], .tuple [.int 3, .str "7"], .tuple [.none, .int 7], .tuple [.tuple [], .tuple []]] := rfl
    generalize PyData.list [encL A, encL B, encL [some ((a : Int), (h : Int))]] = K0 at *
    generalize ([A.map encD, B.map encD, [some ((a : Int), (h : Int))].map encD] : List (List D)) = DS at *
    clear hcopy hZ ho q1 q2 lZ jl fA fB fS lA lB d
    refine sq_nx (ρ' := [.sh K0, .sh (.int c), .on DS, .sh (.int (u : Int)), .no, .no]) (by clear g1 g2 hd i1 i2 eo eo' hj; walk_at "pu") ?_
    refine sq_nx (ρ' := [.sh K0, .sh (.int c), .on DS, .sh (.int (u : Int)), .sh (.int (j : Int)), .no]) (by clear g1 i1 i2 eo eo' hj hu; walk_at "pu") ?_
    refine sq_nx (ρ' := [.sh K0, .sh (.int c), .on DS, .sh (.int (u : Int)), .sh (.int (j : Int)), .sh (.list oddP)]) rfl ?_
    clear eo'
    generalize oddP = OP at *
    refine sq_nx (ρ' := [.sh K0, .sh (.int c), .on (DS.set u ((Z.map encD).set j o)), .sh (.int (u : Int)), .sh (.int (j : Int)), .sh (.list OP)]) (by clear g2 hd hj hu; walk_at "pu") ?_
    rfl
  rcases (by omega : c % 2 = 0 ∨ c % 2 = 1) with e | e
  · obtain ⟨j, hj, hm⟩ := key 0 A e (by decide) rfl lA
    refine ⟨_, hm, ?_⟩
    obtain ⟨f1, f2⟩ := set_no (n := 2 ^ t * w) hj (by omega) q1 q2
    exact no_form t4 f1 fB fS (.inl f2)
  · obtain ⟨j, hj, hm⟩ := key 1 B e (by decide) rfl lB
    refine ⟨_, hm, ?_⟩
    obtain ⟨f1, f2⟩ := set_no (n := 2 ^ t * w) hj (by omega) q1 q2
    exact no_form t4 fA f1 fS (.inr (.inl f2))
end S22
set_option maxHeartbeats 4000000
namespace S22
open PySem L2 LL
abbrev Pq := Int × Int
def Up (L : List Pq) : Prop := (L.map (·.1)).Pairwise (· < ·)
theorem rises_up {ts : List Thing} : Rises ts ↔ Up (things ts) := by
  unfold Rises Up
  rw [keysOf_things]
theorem second_spec : ∀ (ts : List Thing) (i : Nat) (last : Thing) (p : Nat), secondF last i ts = some p → ∃ (A B : List Thing) (y : Pq), ts = A ++ some y :: B ∧ p = i + A.length ∧ (things (last :: A)).getLast? = some y
  | [], i, last, p, h => by cases h
  | none :: r, i, last, p, h => by
    obtain ⟨A, B, y, e1, e2, e3⟩ := second_spec r (i + 1) last p h
    refine ⟨none :: A, B, y, by rw [e1]; rfl, by rw [e2]; simp; omega, ?_⟩
    cases last <;> exact e3
  | some x :: r, i, last, p, h => by
    unfold secondF at h
    by_cases hx : some x = last
    · rw [if_pos hx] at h
      cases h
      refine ⟨[], r, x, rfl, rfl, ?_⟩
      rw [← hx]
      rfl
    · rw [if_neg hx] at h
      obtain ⟨A, B, y, e1, e2, e3⟩ := second_spec r (i + 1) (some x) p h
      refine ⟨some x :: A, B, y, by rw [e1]; rfl, by rw [e2]; simp; omega, ?_⟩
      cases last with
      | none => exact e3
      | some z =>
        show (z :: things (some x :: A)).getLast? = some y
        rw [List.getLast?_cons, e3]
        rfl
theorem mend_things (S : List Thing) : things (mendF S) = things S ∨ ∃ (U : List Pq) (y : Pq) (V : List Pq), things S = U ++ y :: y :: V ∧ things (mendF S) = U ++ y :: V := by
  unfold mendF
  cases h : secondF none 0 S with
  | none => exact .inl rfl
  | some p =>
    right
    obtain ⟨A, B, y, e1, e2, e3⟩ := second_spec S 0 none p h
    have hA : (things A).getLast? = some y := e3
    obtain ⟨U, hU⟩ : ∃ U, things A = U ++ [y] := by
      obtain ⟨ys, hy⟩ := List.getLast?_eq_some_iff.mp hA
      exact ⟨ys, hy⟩
    refine ⟨U, y, things B, ?_, ?_⟩
    · rw [e1, things_app, things_some, hU]
      simp
    · show things (S.set p none) = _
      rw [e1, e2, Nat.zero_add, List.set_append_right _ _ (Nat.le_refl _), Nat.sub_self, List.set_cons_zero, things_app, things_none, hU]
      simp
theorem mend_mem {S : List Thing} {x : Pq} (h : x ∈ things S) : x ∈ things (mendF S) := by
  rcases mend_things S with e | ⟨U, y, V, e1, e2⟩
  · rw [e]; exact h
  · rw [e1] at h
    rw [e2]
    simp only [List.mem_append, List.mem_cons] at h ⊢
    rcases h with h | h | h | h
    · exact .inl h
    · exact .inr (.inl h)
    · exact .inr (.inl h)
    · exact .inr (.inr h)
theorem mend_head (S : List Thing) : (things (mendF S)).head? = (things S).head? := by
  rcases mend_things S with e | ⟨U, y, V, e1, e2⟩
  · rw [e]
  · rw [e1, e2]
    cases U <;> rfl
theorem mend_count {S : List Thing} (x : Pq) : (things S).count x ≤ (things (mendF S)).count x + 1 := by
  rcases mend_things S with e | ⟨U, y, V, e1, e2⟩
  · rw [e]; omega
  · rw [e1, e2]
    simp only [List.count_append, List.count_cons]
    split <;> omega
theorem mend_two {S : List Thing} {x z : Pq} (hxz : x ≠ z) : (things S).count x = (things (mendF S)).count x ∨ (things S).count z = (things (mendF S)).count z := by
  rcases mend_things S with e | ⟨U, y, V, e1, e2⟩
  · left; rw [e]
  · rw [e1, e2]
    simp only [List.count_append, List.count_cons]
    by_cases hy : y = x
    · right
      have : ¬ (y = z) := fun q => hxz (hy.symm.trans q)
      simp [this]
    · left
      simp [hy]
theorem Up.inj {L : List Pq} (h : Up L) : ∀ {a b : Pq}, a ∈ L → b ∈ L → a.1 = b.1 → a = b := by
  induction L with
  | nil => intro a b ha; cases ha
  | cons x L ih =>
    intro a b ha hb hab
    have h' := List.pairwise_cons.mp (show (x.1 :: L.map (·.1)).Pairwise (· < ·) from h)
    rcases List.mem_cons.mp ha with ea | ha'
    · rcases List.mem_cons.mp hb with eb | hb'
      · rw [ea, eb]
      · have := h'.1 b.1 (List.mem_map.mpr ⟨b, hb', rfl⟩)
        rw [ea] at hab
        omega
    · rcases List.mem_cons.mp hb with eb | hb'
      · have := h'.1 a.1 (List.mem_map.mpr ⟨a, ha', rfl⟩)
        rw [eb] at hab
        omega
      · exact ih h'.2 ha' hb' hab
theorem Up.count {L : List Pq} (h : Up L) (x : Pq) : L.count x ≤ 1 := by
  induction L with
  | nil => simp
  | cons y L ih =>
    have h' := List.pairwise_cons.mp (show (y.1 :: L.map (·.1)).Pairwise (· < ·) from h)
    rw [List.count_cons]
    by_cases hy : y = x
    · subst hy
      have : y ∉ L := fun hm => by
        have := h'.1 y.1 (List.mem_map.mpr ⟨y, hm, rfl⟩)
        omega
      rw [List.count_eq_zero_of_not_mem this]
      simp
    · have := ih h'.2
      simp [hy]
      exact this
theorem Up.head {L : List Pq} {f z : Pq} (h : Up L) (hf : L.head? = some f) (hz : z ∈ L) : f.1 ≤ z.1 := by
  cases L with
  | nil => cases hf
  | cons x L =>
    cases hf
    have h' := List.pairwise_cons.mp (show (f.1 :: L.map (·.1)).Pairwise (· < ·) from h)
    rcases List.mem_cons.mp hz with rfl | hz
    · omega
    · have := h'.1 z.1 (List.mem_map.mpr ⟨z, hz, rfl⟩)
      omega
theorem no_thrice {S : List Thing} {X : List Pq} {x : Pq} (h : things S = X ++ [x, x, x]) : ¬ Rises (mendF S) := fun r => by
  have r' := rises_up.mp r
  have c1 := mend_count (S := S) x
  have c2 := r'.count x
  rw [h, List.count_append] at c1
  simp at c1
  omega
theorem no_alike {S : List Thing} {x z : Pq} (hx : x ∈ things S) (hz : z ∈ things S) (hk : x.1 = z.1) (hne : x ≠ z) : ¬ Rises (mendF S) := fun r =>
  hne ((rises_up.mp r).inj (mend_mem hx) (mend_mem hz) hk)
theorem no_two {S : List Thing} {x z : Pq} (hx : 2 ≤ (things S).count x) (hz : 2 ≤ (things S).count z) (hne : x ≠ z) : ¬ Rises (mendF S) := fun r => by
  have r' := rises_up.mp r
  have c1 := r'.count x
  have c2 := r'.count z
  rcases mend_two (S := S) hne with e | e <;> omega
theorem no_fall {S : List Thing} {f z : Pq} (hf : (things S).head? = some f) (hz : z ∈ things S) (hk : z.1 < f.1) : ¬ Rises (mendF S) := fun r => by
  have := (rises_up.mp r).head (f := f) (by rw [mend_head]; exact hf) (mend_mem hz)
  omega
theorem twice_mend {ts S : List Thing} (h : Rises ts) (tw : Twice ts S) : Rises (mendF S) ∧ (things (mendF S)).length = (things ts).length := by
  rcases tw.way with rfl | ⟨p, q, x, hp, hq, mid, rfl⟩
  · rw [mend_straight h]; exact ⟨h, rfl⟩
  · have lp := (List.getElem?_eq_some_iff.mp hp).1
    have lq := (List.getElem?_eq_some_iff.mp hq).1
    have hpq : p ≠ q := fun z => by rw [z, hq] at hp; cases hp
    have gp : (ts.set q (some x))[p]? = some (some x) := by rw [List.getElem?_set_ne (Ne.symm hpq)]; exact hp
    have gq : (ts.set q (some x))[q]? = some (some x) := List.getElem?_set_self lq
    have back : (ts.set q (some x)).set q none = ts := by
      rw [List.set_set]
      apply List.ext_getElem?
      intro i
      by_cases hi : q = i
      · subst hi; rw [List.getElem?_set_self lq, hq]
      · rw [List.getElem?_set_ne hi]
    rcases Nat.lt_or_gt_of_ne hpq with hlt | hgt
    · have := twice_core (S := ts.set q (some x)) gp gq hlt (fun i h1 h2 => by rw [List.getElem?_set_ne (by omega)]; exact mid i (.inl ⟨h1, h2⟩)) (by rw [back]; exact h)
      rw [this.1, back]
      exact ⟨h, rfl⟩
    · -- the new one ahead
      have sp := split_at (S := ts) hq hp hgt (fun i h1 h2 => mid i (.inr ⟨h1, h2⟩))
      have tn : ∀ n, things (List.replicate n none) = [] := fun n => by
        induction n with
        | zero => rfl
        | succ n ih => rw [List.replicate_succ, things_none, ih]
      generalize hT1 : ts.take q = T1 at sp
      generalize hT2 : ts.drop (p + 1) = T2 at sp
      have l1 : T1.length = q := by rw [← hT1, List.length_take]; omega
      generalize hn : p - q - 1 = n at sp
      have eS : ts.set q (some x) = (T1 ++ some x :: List.replicate n none) ++ some x :: T2 := by
        rw [sp, List.set_append_right _ _ (by omega), l1, Nat.sub_self, List.set_cons_zero]
        simp
      have lS : (T1 ++ some x :: List.replicate n none).length = p := by
        rw [List.length_append, List.length_cons, List.length_replicate]
        omega
      have eB : (ts.set q (some x)).set p none = (T1 ++ some x :: List.replicate n none) ++ none :: T2 := by
        rw [eS, List.set_append_right _ _ (by omega), lS, Nat.sub_self, List.set_cons_zero]
      have tB : things ((ts.set q (some x)).set p none) = things ts := by
        rw [eB, sp]
        simp only [things_app, things_some, things_none, tn, List.append_nil, List.nil_append, List.append_assoc, List.cons_append]
      have rB : Rises ((ts.set q (some x)).set p none) := rises_up.mpr (by rw [tB]; exact rises_up.mp h)
      have := twice_core (S := ts.set q (some x)) gq gp hgt (fun i h1 h2 => by rw [List.getElem?_set_ne (by omega)]; exact mid i (.inr ⟨h1, h2⟩)) rB
      rw [this.1, tB]
      exact ⟨rB, rfl⟩
end S22
set_option maxHeartbeats 4000000
namespace S22
open PySem L2 LL
theorem cap_law {t w st : Nat} {h : Nat} (h4 : h ≤ 4) : m__law_cap [.tuple [.int (t : Int), .int (w : Int), .int (st : Int)], .int (h : Int)] = some (.int (tw (h : Int) * ((w : Int) - (h : Int) * (st : Int)))) := by
  have htwo := two_eq (h := (h : Int)) (by omega) (by omega)
  have hTs : -18446744073709551616 < tw (h : Int) ∧ tw (h : Int) < 18446744073709551616 := by
    rcases tw_of (h := (h : Int)) (by omega) (by omega) with e | e | e | e | e <;> omega
  have hhs : -18446744073709551616 < (h : Int) ∧ (h : Int) < 18446744073709551616 := by omega
  generalize tw (h : Int) = T at *
  refine runF_of (o := .rt (.int (T * ((w : Int) - (h : Int) * (st : Int))))) rfl ?_ rfl
  unfold b__law_cap
  walk_at "pu"
theorem room {t w st h : Nat} (bd : Bd (t : Int) (w : Int) (st : Int)) (ht : h ≤ t) : 2 ≤ (w : Int) - (h : Int) * (st : Int) ∧ (w : Int) - (h : Int) * (st : Int) ≤ w ∧ (1 ≤ h → (w : Int) - (h : Int) * (st : Int) ≤ (w : Int) - 1) ∧ (w ≤ 2 → t = 0) := by
  have lo := bd.lo
  have s1 := bd.s1
  have e : (st : Int) * ((t : Int) + 2) = (t : Int) * (st : Int) + 2 * (st : Int) := by rw [Int.mul_add, Int.mul_comm (st : Int) (t : Int), Int.mul_comm (st : Int) 2]
  have h1 : (h : Int) * (st : Int) ≤ (t : Int) * (st : Int) := Int.mul_le_mul_of_nonneg_right (by omega) (by omega)
  have h2 : 0 ≤ (h : Int) * (st : Int) := Int.mul_nonneg (by omega) (by omega)
  refine ⟨by omega, by omega, fun hh => ?_, fun hw => ?_⟩
  · have h3 : 1 * 1 ≤ (h : Int) * (st : Int) := Int.mul_le_mul (by omega) (by omega) (by omega) (by omega)
    omega
  · have h4 : (t : Int) * 1 ≤ (t : Int) * (st : Int) := Int.mul_le_mul_of_nonneg_left (by omega) (by omega)
    omega
def rowT (R : List Pq) (n : Nat) : List Thing := R.map some ++ List.replicate n none
theorem rowT_things (R : List Pq) (n : Nat) : things (rowT R n) = R := by
  have tn : ∀ n, things (List.replicate n none) = [] := fun n => by
    induction n with
    | zero => rfl
    | succ n ih => rw [List.replicate_succ, things_none, ih]
  unfold rowT
  rw [things_app, tn, List.append_nil]
  induction R with
  | nil => rfl
  | cons x R ih => rw [List.map_cons, things_some, ih]
theorem rowT_enc (R : List Pq) (n : Nat) : (rowT R n).map encD = R.map encP ++ (List.replicate n (none : Thing)).map encD := by
  unfold rowT
  rw [List.map_append, List.map_map]
  rfl
theorem rowT_len (R : List Pq) (n : Nat) : (rowT R n).length = R.length + n := by
  unfold rowT
  rw [List.length_append, List.length_map, List.length_replicate]
structure Crowd (X R : List Pq) : Prop where
  len : R.length ≤ X.length + 2
  bad : ∀ S : List Thing, things S = R → ¬ Rises (mendF S)
theorem crowd_even {X0 : List Pq} {l : Pq} : Crowd (X0 ++ [l]) (X0 ++ [l] ++ [l, l]) := ⟨by simp, fun S hS => no_thrice (X := X0) (x := l) (by rw [hS]; simp)⟩
theorem crowd_odd {X0 : List Pq} {l : Pq} : Crowd (X0 ++ [l]) (X0 ++ [l] ++ [(l.1, l.2 + 1)]) := ⟨by simp, fun S hS => no_alike (x := l) (z := (l.1, l.2 + 1)) (by rw [hS]; simp) (by rw [hS]; simp) rfl (fun z => by
  have := congrArg Prod.snd z
  simp at this
  omega)⟩
theorem crowd_two {X1 : List Pq} {f l : Pq} (hu : Up (f :: (X1 ++ [l]))) : Crowd (f :: (X1 ++ [l])) ([f, f] ++ (X1 ++ [l]) ++ [l]) := ⟨by simp, fun S hS => no_two (x := f) (z := l) (by
    rw [hS]
    simp only [List.cons_append, List.nil_append, List.count_cons_self]
    omega) (by
    rw [hS]
    simp only [List.count_append, List.cons_append, List.nil_append, List.count_cons_self, List.count_cons, List.count_nil]
    simp
    omega) (fun z => by
    have h' := List.pairwise_cons.mp (show (f.1 :: (X1 ++ [l]).map (·.1)).Pairwise (· < ·) from hu)
    have := h'.1 l.1 (List.mem_map.mpr ⟨l, by simp, rfl⟩)
    rw [z] at this
    omega)⟩
theorem crowd_fall {X : List Pq} {f : Pq} (hf : X.head? = some f) (b : Int) : Crowd X (X ++ [(f.1 - 1, b)]) := ⟨by simp, fun S hS => no_fall (f := f) (z := (f.1 - 1, b)) (by
    rw [hS]
    cases X with
    | nil => cases hf
    | cons x X => exact hf) (by rw [hS]; simp) (by show f.1 - 1 < f.1; omega)⟩
theorem free_comp (ts : List Thing) (hl : ts.length ≤ 320) (x0 x1 x2 x3 x5 x6 x7 : Option D) : ∃ es, pComp (pCallL gRange1 (pCons (pCall gLen (pCons (pVar 4) pNil)) pNil)) (bd1 0) (pTest (pOp dEq (pOp dIx (pVar 1) (pVar 0)) (pTup pNil))) (pVar 0) 1 [4] [x0, x1, x2, x3, some (encL ts), x5, x6, x7] = some es := by
  have hg : gRange1 [.int ts.length] = some (rangeD 0 ts.length) := by
    rw [gRange1_int _ ⟨by omega, by omega⟩]
    rfl
  have hlen : gLen [encL ts] = some (.int (ts.length : Int)) := by show some (PyData.int ((ts.map encD).length : Int)) = _; rw [List.length_map]
  refine ⟨((List.range ts.length).filter fun i => decide (ts.getD i none = none)).map fun i : Nat => .int (0 + (i : Int)), ?_⟩
  rw [comp_eq (items := rangeD 0 ts.length) (by walk_at "pu") (by rw [rangeD_len]; omega)]
  unfold rangeD
  rw [compP_map (fun i : Nat => .int (0 + (i : Int))) (fun i => decide (ts.getD i none = none)) (fun i : Nat => .int (0 + (i : Int)))]
  intro i hi
  have hi' : i < ts.length := List.mem_range.mp hi
  refine ⟨_, rfl, ?_, fun _ => rfl⟩
  have e : atI (ts.map encD) (0 + (i : Int)) = some (encD (ts.getD i none)) := by
    rw [Int.zero_add, atI_ofNat]
    rw [List.getElem?_map, List.getD_eq_getElem?_getD]
    obtain ⟨x, hx⟩ : ∃ x, ts[i]? = some x := ⟨ts[i], List.getElem?_eq_getElem hi'⟩
    rw [hx]
    rfl
  have q : dEq (encD (ts.getD i none)) (.tuple []) = some (.bool (decide (ts.getD i none = none))) := enc_T.dEq (by decide) (ts.getD i none) none
  show (Option.bind (Option.bind (atI (ts.map encD) (0 + (i : Int))) fun x => dEq x (.tuple [])) asB) = _
  rw [e]
  show Option.bind (dEq (encD (ts.getD i none)) (.tuple [])) asB = _
  rw [q]
  rfl
theorem up_things {ts : List Thing} (h : Rises ts) : Up (things ts) := rises_up.mp h
theorem row_ex {X : List Pq} (hne : X ≠ []) (hu : Up X) (hl : X.length ≤ 320) (way : Int) (w0 : 0 ≤ way) (w4 : way ≤ 4) (b0 b1 b2 b4 b6 : Sl) :
    ∃ R : List Pq, Crowd X R ∧ ∀ (o : Option Out) (F : PSt), F [b0, b1, b2, .sh (.int way), b4, .sh (.list (X.map encP)), b6, .sh (.list (R.map encP))] = o →
      (pSq (pSet 7 (vS (pOp dIx (pOfL (pLst (pCons (pOfL (pCat (pVar 5) (pOfL (pLst (pCons (pOp dIx (pVar 5) (pUn dNeg (pCon (.int 1)))) (pCons (pOp dIx (pVar 5) (pUn dNeg (pCon (.int 1)))) pNil)))))) (pCons (pOfL (pCat (pVar 5) (pOfL (pLst (pCons (pTup (pCons (pOp dIx (pOp dIx (pVar 5) (pUn dNeg (pCon (.int 1)))) (pCon (.int 0))) (pCons (pOp dAdd (pOp dIx (pOp dIx (pVar 5) (pUn dNeg (pCon (.int 1)))) (pCon (.int 1))) (pCon (.int 1))) pNil))) pNil))))) pNil)))) (pOp dMod (pVar 3) (pCon (.int 2))))))
      (pSq (pIfS (pAndT (pTest (pOp dEq (pVar 3) (pCon (.int 3)))) (pTest (pOp dGt (pCall gLen (pCons (pVar 5) pNil)) (pCon (.int 1)))))
        (pSet 7 (vS (pOfL (pCat (pOfL (pCat (pOfL (pLst (pCons (pOp dIx (pVar 5) (pCon (.int 0))) (pCons (pOp dIx (pVar 5) (pCon (.int 0))) pNil)))) (pOfL (pSl (pVar 5) (pPart (pCon (.int 1))) pNoPart)))) (pOfL (pLst (pCons (pOp dIx (pVar 5) (pUn dNeg (pCon (.int 1)))) pNil))))))) pNx)
      (pSq (pIfS (pTest (pOp dEq (pVar 3) (pCon (.int 4))))
        (pSet 7 (vS (pOfL (pCat (pVar 5) (pOfL (pLst (pCons (pTup (pCons (pOp dSub (pOp dIx (pOp dIx (pVar 5) (pCon (.int 0))) (pCon (.int 0))) (pCon (.int 1))) (pCons (pCon (.int 4)) pNil))) pNil))))))) pNx)
      F))) [b0, b1, b2, .sh (.int way), b4, .sh (.list (X.map encP)), b6, .no] = o := by
  obtain ⟨X0, l, hX⟩ : ∃ X0 l, X = X0 ++ [l] := ⟨X.dropLast, X.getLast hne, (List.dropLast_concat_getLast hne).symm⟩
  obtain ⟨f, X2, hX2⟩ : ∃ f X2, X = f :: X2 := by
    cases X with
    | nil => exact absurd rfl hne
    | cons f X2 => exact ⟨f, X2, rfl⟩
  have i9 : atI (X.map encP) (-1) = some (.tuple [.int l.1, .int l.2]) := by
    rw [atI_last (by simpa using hne), hX]
    simp [encP]
  have i0 : atI (X.map encP) 0 = some (.tuple [.int f.1, .int f.2]) := by rw [hX2, List.map_cons, atI_zero]; rfl
  have ln : gLen [.list (X.map encP)] = some (.int (X.length : Int)) := by show some (PyData.int ((X.map encP).length : Int)) = _; rw [List.length_map]
  have cut := cut1 (X.map encP)
  have f1 : (X.map encP).length + 1 < 16777216 := by rw [List.length_map]; omega
  have f2 : (X.map encP).length + 2 < 16777216 := by rw [List.length_map]; omega
  have f3 : 2 + ((X.map encP).drop 1).length < 16777216 := by rw [List.length_drop, List.length_map]; omega
  have f4 : ((X.map encP).drop 1).length + 1 + 1 + 1 < 16777216 := by rw [List.length_drop, List.length_map]; omega
  have dl : ((X.map encP).drop 1) = (X.drop 1).map encP := (List.map_drop).symm
  obtain ⟨R0, c0, s0⟩ : ∃ R0, (way ≠ 4 → Crowd X R0) ∧ pSet 7 (vS (pOp dIx (pOfL (pLst (pCons (pOfL (pCat (pVar 5) (pOfL (pLst (pCons (pOp dIx (pVar 5) (pUn dNeg (pCon (.int 1)))) (pCons (pOp dIx (pVar 5) (pUn dNeg (pCon (.int 1)))) pNil)))))) (pCons (pOfL (pCat (pVar 5) (pOfL (pLst (pCons (pTup (pCons (pOp dIx (pOp dIx (pVar 5) (pUn dNeg (pCon (.int 1)))) (pCon (.int 0))) (pCons (pOp dAdd (pOp dIx (pOp dIx (pVar 5) (pUn dNeg (pCon (.int 1)))) (pCon (.int 1))) (pCon (.int 1))) pNil))) pNil))))) pNil)))) (pOp dMod (pVar 3) (pCon (.int 2))))) [b0, b1, b2, .sh (.int way), b4, .sh (.list (X.map encP)), b6, .no] = some (.nx [b0, b1, b2, .sh (.int way), b4, .sh (.list (X.map encP)), b6, .sh (.list (R0.map encP))]) := by
    have m2 : way % 2 = 0 ∨ way % 2 = 1 := by omega
    rcases m2 with e | e
    · refine ⟨X ++ [l, l], fun _ => by rw [hX]; exact crowd_even, ?_⟩
      have er : (X ++ [l, l]).map encP = X.map encP ++ [.tuple [.int l.1, .int l.2], .tuple [.int l.1, .int l.2]] := by rw [List.map_append]; rfl
      rw [er]
      generalize X.map encP = XD at *
      clear hX hX2 hne hu i0 ln cut f3 f4 dl er w0 w4
      walk_at "pu"
    · refine ⟨X ++ [(l.1, l.2 + 1)], fun _ => by rw [hX]; exact crowd_odd, ?_⟩
      have er : (X ++ [(l.1, l.2 + 1)]).map encP = X.map encP ++ [.tuple [.int l.1, .int (l.2 + 1)]] := by rw [List.map_append]; rfl
      rw [er]
      generalize X.map encP = XD at *
      clear hX hX2 hne hu i0 ln cut f3 f4 dl er w0 w4
      walk_at "pu"
  obtain ⟨R1, c1, s1⟩ : ∃ R1, (way ≠ 4 → Crowd X R1) ∧ pIfS (pAndT (pTest (pOp dEq (pVar 3) (pCon (.int 3)))) (pTest (pOp dGt (pCall gLen (pCons (pVar 5) pNil)) (pCon (.int 1)))))
        (pSet 7 (vS (pOfL (pCat (pOfL (pCat (pOfL (pLst (pCons (pOp dIx (pVar 5) (pCon (.int 0))) (pCons (pOp dIx (pVar 5) (pCon (.int 0))) pNil)))) (pOfL (pSl (pVar 5) (pPart (pCon (.int 1))) pNoPart)))) (pOfL (pLst (pCons (pOp dIx (pVar 5) (pUn dNeg (pCon (.int 1)))) pNil))))))) pNx [b0, b1, b2, .sh (.int way), b4, .sh (.list (X.map encP)), b6, .sh (.list (R0.map encP))] = some (.nx [b0, b1, b2, .sh (.int way), b4, .sh (.list (X.map encP)), b6, .sh (.list (R1.map encP))]) := by
    by_cases e3 : way = 3
    · by_cases el : (X.length : Int) > 1
      · have hX2ne : X2 ≠ [] := fun z => by rw [hX2, z] at el; simp at el
        obtain ⟨X1, l', hX1⟩ : ∃ X1 l', X2 = X1 ++ [l'] := ⟨X2.dropLast, X2.getLast hX2ne, (List.dropLast_concat_getLast hX2ne).symm⟩
        have hll : l' = l := by
          have h1 : X.getLast? = some l := by rw [hX]; simp
          rw [hX2, hX1, ← List.cons_append, List.getLast?_concat] at h1
          exact Option.some.inj h1
        subst hll
        refine ⟨[f, f] ++ (X1 ++ [l']) ++ [l'], fun _ => ?_, ?_⟩
        · rw [hX2, hX1]
          exact crowd_two (by rw [← hX1, ← hX2]; exact hu)
        · have er : ([f, f] ++ (X1 ++ [l']) ++ [l']).map encP = .tuple [.int f.1, .int f.2] :: .tuple [.int f.1, .int f.2] :: ((X.map encP).drop 1 ++ [.tuple [.int l'.1, .int l'.2]]) := by
            rw [dl, hX2, ← hX1]
            simp [encP]
          rw [er]
          generalize R0.map encP = RD at *
          clear hX hX2 hne hu dl er w0 w4 s0 c0 hX1 hX2ne
          generalize X.map encP = XD at *
          walk_at "pu"
      · refine ⟨R0, c0, ?_⟩
        generalize R0.map encP = RD at *
        clear hX hX2 hne hu dl w0 w4 s0 c0 i9 i0 cut f1 f2 f3 f4
        generalize X.map encP = XD at *
        walk_at "pu"
    · refine ⟨R0, c0, ?_⟩
      generalize R0.map encP = RD at *
      clear hX hX2 hne hu dl w0 w4 s0 c0 i9 i0 cut f1 f2 f3 f4
      generalize X.map encP = XD at *
      walk_at "pu"
  obtain ⟨R2, c2, s2⟩ : ∃ R2, Crowd X R2 ∧ pIfS (pTest (pOp dEq (pVar 3) (pCon (.int 4))))
        (pSet 7 (vS (pOfL (pCat (pVar 5) (pOfL (pLst (pCons (pTup (pCons (pOp dSub (pOp dIx (pOp dIx (pVar 5) (pCon (.int 0))) (pCon (.int 0))) (pCon (.int 1))) (pCons (pCon (.int 4)) pNil))) pNil))))))) pNx [b0, b1, b2, .sh (.int way), b4, .sh (.list (X.map encP)), b6, .sh (.list (R1.map encP))] = some (.nx [b0, b1, b2, .sh (.int way), b4, .sh (.list (X.map encP)), b6, .sh (.list (R2.map encP))]) := by
    by_cases e4 : way = 4
    · refine ⟨X ++ [(f.1 - 1, 4)], crowd_fall (by rw [hX2]; rfl) 4, ?_⟩
      have er : (X ++ [(f.1 - 1, 4)]).map encP = X.map encP ++ [.tuple [.int (f.1 - 1), .int 4]] := by rw [List.map_append]; rfl
      rw [er]
      generalize R1.map encP = RD at *
      clear hX hX2 hne hu dl er w0 w4 s0 c0 s1 c1 i9 cut f3 f4
      generalize X.map encP = XD at *
      walk_at "pu"
    · refine ⟨R1, c1 e4, ?_⟩
      generalize R1.map encP = RD at *
      clear hX hX2 hne hu dl w0 w4 s0 c0 s1 c1 i9 i0 cut f1 f2 f3 f4
      generalize X.map encP = XD at *
      walk_at "pu"
  exact ⟨R2, c2, fun o F hF => sq_nx s0 (sq_nx s1 (sq_nx s2 hF))⟩
end S22
set_option maxHeartbeats 4000000
namespace S22
open PySem L2 LL
theorem things_len (ts : List Thing) : (things ts).length = (keysOf ts).length := by rw [keysOf_things, List.length_map]
theorem filt_len (ts : List Thing) : (ts.filter full').length = (things ts).length := by
  have := congrArg List.length (filter_things ts)
  rw [List.length_map, List.length_map] at this
  exact this
theorem crowded_ex {t w st h : Nat} (bd : Bd (t : Int) (w : Int) (st : Int)) (ht : h ≤ t) (c way : Int) (w0 : 0 ≤ way) (w4 : way ≤ 4) : ∃ S : List Thing, m__law_crowded [bdD t w st, .int (h : Int), .int c, .int way] = some (S.map encD) ∧ S.length ≤ 323 ∧
    ((S.length = 2 ^ h * w ∧ ¬ (Rises (mendF S) ∧ (((mendF S).filter full').length : Int) ≤ 2 ^ h * ((w : Int) - (h : Int) * (st : Int)))) ∨ (2 ^ t * w < S.length ∧ S.length ≤ 320)) := by
  have t4 : t ≤ 4 := by have := bd.t4; omega
  have w20 : w ≤ 20 := by have := bd.hi; omega
  have hw1 := bd.w1
  have hz := pw_ok (k := h) (w := w) (by omega) (by omega) w20
  obtain ⟨r2, rw, rh, rt⟩ := room bd ht
  have hcap := cap_law (t := t) (w := w) (st := st) (h := h) (by omega)
  rw [tw_nat] at hcap
  have hcz : 2 ≤ ((2 ^ h : Nat) : Int) * ((w : Int) - (h : Int) * (st : Int)) ∧ ((2 ^ h : Nat) : Int) * ((w : Int) - (h : Int) * (st : Int)) ≤ ((2 ^ h * w : Nat) : Int) ∧ (1 ≤ h → ((2 ^ h : Nat) : Int) * ((w : Int) - (h : Int) * (st : Int)) + 1 ≤ ((2 ^ h * w : Nat) : Int)) := by
    have p1 : 1 ≤ 2 ^ h := Nat.pow_pos (by decide)
    generalize hq : (w : Int) - (h : Int) * (st : Int) = q at *
    rw [Int.natCast_mul]
    generalize 2 ^ h = P at *
    have a1 : (1 : Int) * 2 ≤ (P : Int) * q := Int.mul_le_mul (by omega) r2 (by decide) (by omega)
    have a2 : (P : Int) * q ≤ (P : Int) * (w : Int) := Int.mul_le_mul_of_nonneg_left rw (by omega)
    refine ⟨by omega, a2, fun hh => ?_⟩
    have a3 : (P : Int) * q ≤ (P : Int) * ((w : Int) - 1) := Int.mul_le_mul_of_nonneg_left (rh hh) (by omega)
    rw [Int.mul_sub, Int.mul_one] at a3
    omega
  have hpc : (2 : Int) ^ h * ((w : Int) - (h : Int) * (st : Int)) = ((2 ^ h : Nat) : Int) * ((w : Int) - (h : Int) * (st : Int)) := by rw [Int.natCast_pow]; rfl
  rw [hpc]
  generalize hC : ((2 ^ h : Nat) : Int) * ((w : Int) - (h : Int) * (st : Int)) = cap at *
  obtain ⟨Z, hZ, rZ, lZ, nZ⟩ := filled_ex (hh := h) c (cap - 2) bd (by omega)
  obtain ⟨Z2, hZ2, rZ2, lZ2, nZ2⟩ := filled_ex (hh := h) c (cap + 1) bd (by omega)
  have hpow : 2 ^ h * w ≤ 2 ^ t * w := Nat.mul_le_mul_right w (Nat.pow_le_pow_right (by decide) ht)
  generalize hN : 2 ^ h * w = N at *
  have hX1 : ((things Z).length : Int) = cap - 2 := by rw [things_len]; omega
  have hth := things_comp Z (by omega) (fi := pItL (pVar 4)) (ρ := [some (bdD t w st), some (.int (h : Int)), some (.int c), some (.int way), some (encL Z), none, none, none]) rfl
  rw [filter_things] at hth
  obtain ⟨es, hes⟩ := free_comp Z (by omega) (some (bdD t w st)) (some (.int (h : Int))) (some (.int c)) (some (.int way)) (some (.list ((things Z).map encP))) none none
  have start : ∀ o, (pSq (pIfS (pAndT (pTest (pOp dEq (pVar 3) (pCon (.int 0)))) (pTest (pOp dGt (pVar 1) (pCon (.int 0)))))
      (pRetL (pCallL m__law_filled (pCons (pVar 0) (pCons (pVar 1) (pCons (pVar 2) (pCons (pOp dAdd (pCall m__law_cap (pCons (pVar 0) (pCons (pVar 1) pNil))) (pCon (.int 1))) pNil)))))) pNx)
    (pSq (pIfS (pTest (pOp dEq (pVar 5) (pOfL (pLst pNil))))
      (pSet 5 (vS (pOfL (pLst (pCons (pTup (pCons (pCon (.int 5)) (pCons (pCon (.int 5)) pNil))) pNil))))) pNx)
    (pSq (pSet 7 (vS (pOp dIx (pOfL (pLst (pCons (pOfL (pCat (pVar 5) (pOfL (pLst (pCons (pOp dIx (pVar 5) (pUn dNeg (pCon (.int 1)))) (pCons (pOp dIx (pVar 5) (pUn dNeg (pCon (.int 1)))) pNil)))))) (pCons (pOfL (pCat (pVar 5) (pOfL (pLst (pCons (pTup (pCons (pOp dIx (pOp dIx (pVar 5) (pUn dNeg (pCon (.int 1)))) (pCon (.int 0))) (pCons (pOp dAdd (pOp dIx (pOp dIx (pVar 5) (pUn dNeg (pCon (.int 1)))) (pCon (.int 1))) (pCon (.int 1))) pNil))) pNil))))) pNil)))) (pOp dMod (pVar 3) (pCon (.int 2))))))
    (pSq (pIfS (pAndT (pTest (pOp dEq (pVar 3) (pCon (.int 3)))) (pTest (pOp dGt (pCall gLen (pCons (pVar 5) pNil)) (pCon (.int 1)))))
      (pSet 7 (vS (pOfL (pCat (pOfL (pCat (pOfL (pLst (pCons (pOp dIx (pVar 5) (pCon (.int 0))) (pCons (pOp dIx (pVar 5) (pCon (.int 0))) pNil)))) (pOfL (pSl (pVar 5) (pPart (pCon (.int 1))) pNoPart)))) (pOfL (pLst (pCons (pOp dIx (pVar 5) (pUn dNeg (pCon (.int 1)))) pNil))))))) pNx)
    (pSq (pIfS (pTest (pOp dEq (pVar 3) (pCon (.int 4))))
      (pSet 7 (vS (pOfL (pCat (pVar 5) (pOfL (pLst (pCons (pTup (pCons (pOp dSub (pOp dIx (pOp dIx (pVar 5) (pCon (.int 0))) (pCon (.int 0))) (pCon (.int 1))) (pCons (pCon (.int 4)) pNil))) pNil))))))) pNx)
    (pRetL (pCat (pVar 7) (pOfL (pComp (pCallL gRange1 (pCons (pOp dSub (pCall gLen (pCons (pVar 4) pNil)) (pCall gLen (pCons (pVar 7) pNil))) pNil)) (bd1 0) pTrue (pTup pNil) 1 []))))))))) [.sh (bdD t w st), .sh (.int (h : Int)), .sh (.int c), .sh (.int way), .sh (encL Z), .sh (.list ((things Z).map encP)), .sh (.list es), .no] = some (.rl o) → m__law_crowded [bdD t w st, .int (h : Int), .int c, .int way] = some o := by
    intro o ho
    refine runL_of rfl ?_
    unfold b__law_crowded
    show pSq _ _ [.sh (bdD t w st), .sh (.int (h : Int)), .sh (.int c), .sh (.int way), .no, .no, .no, .no] = _
    refine sq_nx (ρ' := [.sh (bdD t w st), .sh (.int (h : Int)), .sh (.int c), .sh (.int way), .sh (encL Z), .no, .no, .no]) ?_ ?_
    · have hZ' : m__law_filled [bdD t w st, .int (h : Int), .int c, .int (cap - 2)] = some (Z.map encD) := hZ
      have hcap' : m__law_cap [bdD t w st, .int (h : Int)] = some (.int cap) := hcap
      have eL : encL Z = .list (Z.map encD) := rfl
      rw [eL]
      generalize Z.map encD = ZD at *
      generalize bdD t w st = B at *
      clear ho hes hth hZ hZ2 hcap eL
      walk_at "pu"
    refine sq_nx (set_SL 5 hth) ?_
    show pSq _ _ [.sh (bdD t w st), .sh (.int (h : Int)), .sh (.int c), .sh (.int way), .sh (encL Z), .sh (.list ((things Z).map encP)), .no, .no] = _
    exact sq_nx (set_SL 6 hes) ho
  by_cases hway : way = 0 ∧ (h : Int) > 0
  · obtain ⟨hw0, hh0⟩ := hway
    refine ⟨Z2, start _ ?_, by omega, .inl ⟨lZ2, fun z => ?_⟩⟩
    · have hZ2' : m__law_filled [bdD t w st, .int (h : Int), .int c, .int (cap + 1)] = some (Z2.map encD) := hZ2
      have hcap' : m__law_cap [bdD t w st, .int (h : Int)] = some (.int cap) := hcap
      generalize Z2.map encD = ZD at *
      generalize bdD t w st = B at *
      generalize encL Z = LZ at *
      generalize (things Z).map encP = XD at *
      clear start hes hth hZ hZ2 hcap
      refine sq_rl ?_
      walk_at "pu"
    · have e1 := z.2
      rw [mend_straight rZ2, filt_len, things_len] at e1
      have := hcz.2.2 (by omega)
      omega
  · -- the row
    obtain ⟨X, hX, hXe, hXs⟩ : ∃ X : List Pq, X ≠ [] ∧ (Up X ∧ (X.length : Int) ≤ max 1 (cap - 2)) ∧ pIfS (pTest (pOp dEq (pVar 5) (pOfL (pLst pNil))))
      (pSet 5 (vS (pOfL (pLst (pCons (pTup (pCons (pCon (.int 5)) (pCons (pCon (.int 5)) pNil))) pNil))))) pNx [.sh (bdD t w st), .sh (.int (h : Int)), .sh (.int c), .sh (.int way), .sh (encL Z), .sh (.list ((things Z).map encP)), .sh (.list es), .no] = some (.nx [.sh (bdD t w st), .sh (.int (h : Int)), .sh (.int c), .sh (.int way), .sh (encL Z), .sh (.list (X.map encP)), .sh (.list es), .no]) := by
      have q := dEq_PL (things Z) []
      have q' : dEq (.list ((things Z).map encP)) (.list []) = some (.bool (decide (things Z = []))) := q
      by_cases he : things Z = []
      · refine ⟨[(5, 5)], by simp, ⟨List.pairwise_singleton _ _, by simp; omega⟩, ?_⟩
        rw [decide_eq_true he] at q'
        have e5 : ([(5, 5)] : List Pq).map encP = [.tuple [.int 5, .int 5]] := rfl
        rw [e5]
        generalize (things Z).map encP = XD at *
        generalize encL Z = LZ at *
        generalize bdD t w st = B at *
        clear start hes hth hZ hZ2 hcap he q e5
        walk_at "pu"
      · refine ⟨things Z, he, ⟨up_things rZ, by omega⟩, ?_⟩
        rw [decide_eq_false he] at q'
        generalize (things Z).map encP = XD at *
        generalize encL Z = LZ at *
        generalize bdD t w st = B at *
        clear start hes hth hZ hZ2 hcap he q
        walk_at "pu"
    have hXl : X.length ≤ 320 := by omega
    obtain ⟨R, cr, run⟩ := row_ex hX hXe.1 hXl way w0 w4 (.sh (bdD t w st)) (.sh (.int (h : Int))) (.sh (.int c)) (.sh (encL Z)) (.sh (.list es))
    have hRl := cr.len
    have last : (pRetL (pCat (pVar 7) (pOfL (pComp (pCallL gRange1 (pCons (pOp dSub (pCall gLen (pCons (pVar 4) pNil)) (pCall gLen (pCons (pVar 7) pNil))) pNil)) (bd1 0) pTrue (pTup pNil) 1 [])))) [.sh (bdD t w st), .sh (.int (h : Int)), .sh (.int c), .sh (.int way), .sh (encL Z), .sh (.list (X.map encP)), .sh (.list es), .sh (.list (R.map encP))] = some (.rl ((rowT R (N - R.length)).map encD)) := by
      have hln : gLen [encL Z] = some (.int (N : Int)) := by show some (PyData.int ((Z.map encD).length : Int)) = _; rw [List.length_map, lZ]
      have hlr : gLen [.list (R.map encP)] = some (.int (R.length : Int)) := by show some (PyData.int ((R.map encP).length : Int)) = _; rw [List.length_map]
      have hg : gRange1 [.int ((N : Int) - (R.length : Int))] = some ((List.range (N - R.length)).map natD) := by
        rw [gRange1_int _ ⟨by omega, by omega⟩, show ((N : Int) - (R.length : Int)).toNat = N - R.length by omega]
        have := range_natD (N - R.length) (by omega)
        rw [gRange1_int _ ⟨by omega, by omega⟩, Int.toNat_natCast] at this
        exact this
      have hrep := rep_comp (fi := pCallL gRange1 (pCons (pOp dSub (pCall gLen (pCons (pVar 4) pNil)) (pCall gLen (pCons (pVar 7) pNil))) pNil)) (W := N - R.length) (by omega) (ρ := full [.sh (bdD t w st), .sh (.int (h : Int)), .sh (.int c), .sh (.int way), .sh (encL Z), .sh (.list (X.map encP)), .sh (.list es), .sh (.list (R.map encP))]) (by
        show Option.bind (Option.bind (Option.bind (Option.bind (some [encL Z]) gLen) fun x => Option.bind (Option.bind (some [.list (R.map encP)]) gLen) fun y => dSub x y) fun x => some [x]) gRange1 = _
        show Option.bind (Option.bind (Option.bind (gLen [encL Z]) fun x => Option.bind (gLen [.list (R.map encP)]) fun y => dSub x y) fun x => some [x]) gRange1 = _
        rw [hln, hlr]
        exact hg)
      rw [rowT_enc]
      have hfl : (R.map encP).length + ((List.replicate (N - R.length) (none : Thing)).map encD).length < 16777216 := by
        rw [List.length_map, List.length_map, List.length_replicate]
        omega
      generalize pComp (pCallL gRange1 (pCons (pOp dSub (pCall gLen (pCons (pVar 4) pNil)) (pCall gLen (pCons (pVar 7) pNil))) pNil)) (bd1 0) pTrue (pTup pNil) 1 [] = PK at *
      generalize bdD t w st = B at *
      generalize encL Z = LZ at *
      generalize R.map encP = RD at *
      generalize X.map encP = XD at *
      generalize (List.replicate (N - R.length) (none : Thing)).map encD = ND at *
      simp only [full, List.map_cons, List.map_nil, view_sh, view_on, view_no] at hrep
      clear run start hes hth hZ hZ2 hcap hXs hg hln hlr
      walk_at "pu"
    refine ⟨rowT R (N - R.length), start _ ?_, ?_, ?_⟩
    · refine sq_nx ?_ (sq_nx hXs (run _ _ last))
      generalize (things Z).map encP = XD at *
      generalize encL Z = LZ at *
      generalize bdD t w st = B at *
      clear start hes hth hZ hZ2 hcap run last hXs
      by_cases hw0 : way = 0
      · have hh : ¬ (h : Int) > 0 := fun z => hway ⟨hw0, z⟩
        clear hway
        walk_at "pu"
      · clear hway
        walk_at "pu"
    · rw [rowT_len]; omega
    · rw [rowT_len]
      by_cases hle : R.length ≤ N
      · exact .inl ⟨by omega, fun z => cr.bad _ (rowT_things _ _) z.1⟩
      · right
        have hN2 : N ≤ 2 := by omega
        have hw2 : w ≤ 2 := by
          have : 1 * w ≤ 2 ^ h * w := Nat.mul_le_mul_right w (Nat.pow_pos (by decide))
          omega
        have t0 := rt hw2
        have h0 : h = 0 := by omega
        subst t0
        subst h0
        have e : 2 ^ 0 * w = N := hN
        omega
end S22
set_option maxHeartbeats 4000000
namespace S22
open PySem L2 LL
theorem wrong_no {t w st a h : Nat} {k : Dk} {A B : List Thing} (bd : Bd (t : Int) (w : Int) (st : Int)) (d : Dsk k (2 ^ t * w) a h A B) (ht : h ≤ t) (c : Int) : ∃ x, m__law_wrong [bdD t w st, encK k, .int c] = some x ∧ m_is_disk [bdD t w st, x] = some (.bool false) := by
  have t4 : t ≤ 4 := by have := bd.t4; omega
  have w20 : w ≤ 20 := by have := bd.hi; omega
  have hw1 := bd.w1
  have hN := pw_ok (k := t) (w := w) t4 (by omega) w20
  have m8 := m_pos c (b := 8) (by decide)
  have start : ∀ o, (pSq (pIfS (pTest (pOp dEq (pVar 3) (pCon (.int 0))))
      (pRet (pCall m__law_shape (pCons (pVar 1) (pCons (pOp dDiv (pVar 2) (pCon (.int 8))) pNil)))) pNx)
    (pSq (pIfS (pTest (pOp dEq (pVar 3) (pCon (.int 1))))
      (pRet (pOfL (pCallL m__law_sign (pCons (pVar 0) (pCons (pVar 1) (pCons (pOp dDiv (pVar 2) (pCon (.int 8))) pNil)))))) pNx)
    (pSq (pIfS (pTest (pOp dLt (pVar 3) (pCon (.int 4))))
      (pRet (pOfL (pOfN (pCallN m__law_place (pCons (pVar 1) (pCons (pOp dDiv (pVar 2) (pCon (.int 8))) pNil)))))) pNx)
    (pSq (pAsg (bs2 4 5) (vS (pOp dIx (pOp dIx (pVar 1) (pCon (.int 2))) (pCon (.int 0)))))
    (pRet (pOfL (pCallL m__law_disk (pCons (pVar 0) (pCons (pVar 5) (pCons (pVar 4) (pCons (pOfL (pCallL m__law_crowded (pCons (pVar 0) (pCons (pVar 5) (pCons (pVar 2) (pCons (pOp dIx (pOfL (pLst (pCons (pOp dSub (pVar 3) (pCon (.int 4))) (pCons (pCon (.int 4)) pNil)))) (pOp dMod (pOp dDiv (pVar 2) (pCon (.int 8))) (pCon (.int 2)))) pNil)))))) (pCons (pVar 2) pNil)))))))))))) [.sh (bdD t w st), .sh (encK k), .sh (.int c), .sh (.int (c % 8)), .no, .no] = some (.rt o) → m__law_wrong [bdD t w st, encK k, .int c] = some o := by
    intro o ho
    refine runF_of (o := .rt o) rfl ?_ rfl
    unfold b__law_wrong
    show pSq _ _ [.sh (bdD t w st), .sh (encK k), .sh (.int c), .no, .no, .no] = _
    refine sq_nx (ρ' := [.sh (bdD t w st), .sh (encK k), .sh (.int c), .sh (.int (c % 8)), .no, .no]) ?_ ho
    generalize bdD t w st = Bo at *
    generalize encK k = E at *
    clear ho d bd
    walk_at "pu"
  by_cases e0 : c % 8 = 0
  · obtain ⟨x, hx, hf⟩ := shape_no (n := 0) (st := st) t4 d hN.2 hN.1 (c / 8)
    refine ⟨x, start x ?_, disk_no hf⟩
    refine sq_rt ?_
    generalize bdD t w st = Bo at *
    generalize encK k = E at *
    clear start d bd hf
    walk_at "pu"
  by_cases e1 : c % 8 = 1
  · obtain ⟨x, hx, hf⟩ := sign_no (st := st) t4 d hN.2 (c / 8)
    refine ⟨.list x, start _ ?_, disk_no hf⟩
    have n10 : decide ((1 : Int) = 0) = false := rfl
    generalize bdD t w st = Bo at *
    generalize encK k = E at *
    clear start d bd hf e0
    refine sq_nx (ρ' := [.sh Bo, .sh E, .sh (.int c), .sh (.int (c % 8)), .no, .no]) (by clear hx; walk_at "pu") ?_
    refine sq_rt ?_
    walk_at "pu"
  by_cases e4 : c % 8 < 4
  · obtain ⟨x, hx, hf⟩ := place_no (st := st) t4 d hN.2 hN.1 (c / 8)
    refine ⟨.list (x.map PyData.list), start _ ?_, disk_no hf⟩
    generalize bdD t w st = Bo at *
    generalize encK k = E at *
    clear start d bd hf
    refine sq_nx (ρ' := [.sh Bo, .sh E, .sh (.int c), .sh (.int (c % 8)), .no, .no]) (by clear hx; walk_at "pu") ?_
    refine sq_nx (ρ' := [.sh Bo, .sh E, .sh (.int c), .sh (.int (c % 8)), .no, .no]) (by clear hx; walk_at "pu") ?_
    refine sq_rt ?_
    walk_at "pu"
  · have mm := m_pos (c / 8) (b := 2) (by decide)
    obtain ⟨v, hv, ev⟩ := at_mem ([.int (c % 8 - 4), .int 4] : List D) (i := c / 8 % 2) mm.1 mm.2
    obtain ⟨way, rfl, w0, w4⟩ : ∃ way : Int, v = .int way ∧ 0 ≤ way ∧ way ≤ 4 := by
      simp only [List.mem_cons, List.mem_nil_iff, or_false] at hv
      rcases hv with rfl | rfl
      · exact ⟨_, rfl, by omega, by omega⟩
      · exact ⟨_, rfl, by decide, by decide⟩
    obtain ⟨S, hS, _, hbad⟩ := crowded_ex bd ht c way w0 w4
    have hpow : 2 ^ h * w ≤ 2 ^ t * w := Nat.mul_le_mul_right w (Nat.pow_le_pow_right (by decide) ht)
    have hSl : S.length ≤ 320 := by
      rcases hbad with hb | hb
      · omega
      · exact hb.2
    obtain ⟨A', B', R, hd, hR, hAB⟩ := disk_any c h a S bd d.a2 hSl
    refine ⟨.list ([A', B', [some ((a : Int), (h : Int))]].map encL), start _ ?_, ?_⟩
    · have hsg := d.sg
      have hS' : m__law_crowded [bdD t w st, .int (h : Int), .int c, .int way] = some (S.map encD) := hS
      have hd' : m__law_disk [bdD t w st, .int (h : Int), .int (a : Int), .list (S.map encD), .int c] = some ([A', B', [some ((a : Int), (h : Int))]].map encL) := hd
      have hix2 : dIx (encL [some ((a : Int), (h : Int))]) (.int 0) = some (.tuple [.int (a : Int), .int (h : Int)]) := rfl
      have hix := hsg.1
      generalize [A', B', [some ((a : Int), (h : Int))]].map encL = RR at *
      generalize encL [some ((a : Int), (h : Int))] = SG at *
      generalize bdD t w st = Bo at *
      generalize encK k = E at *
      generalize S.map encD = SD at *
      clear start bd hbad hd hR hAB hv hsg hS d
      refine sq_nx (ρ' := [.sh Bo, .sh E, .sh (.int c), .sh (.int (c % 8)), .no, .no]) (by clear hS' hd' hix hix2 ev; walk_at "pu") ?_
      refine sq_nx (ρ' := [.sh Bo, .sh E, .sh (.int c), .sh (.int (c % 8)), .no, .no]) (by clear hS' hd' hix hix2 ev; walk_at "pu") ?_
      refine sq_nx (ρ' := [.sh Bo, .sh E, .sh (.int c), .sh (.int (c % 8)), .no, .no]) (by clear hS' hd' hix hix2 ev; walk_at "pu") ?_
      refine sq_nx (ρ' := [.sh Bo, .sh E, .sh (.int c), .sh (.int (c % 8)), .sh (.int (a : Int)), .sh (.int (h : Int))]) ?_ ?_
      · show Option.bind (vS _ _) _ = _
        unfold vS
        show Option.bind (Option.bind (Option.bind (Option.bind (some E) fun x => dIx x (.int 2)) fun x => dIx x (.int 0)) _) _ = _
        show Option.bind (Option.bind (Option.bind (dIx E (.int 2)) fun x => dIx x (.int 0)) _) _ = _
        rw [hix]
        show Option.bind (Option.bind (dIx SG (.int 0)) _) _ = _
        rw [hix2]
        rfl
      · clear hix hix2
        walk_at "pu"
    · have hek : PyData.list ([A', B', [some ((a : Int), (h : Int))]].map encL) = encK [A', B', [some ((a : Int), (h : Int))]] := rfl
      have a2 := d.a2
      rcases hbad with ⟨hl, hb⟩ | ⟨hlong, _⟩
      · have dd : Dsk [A', B', [some ((a : Int), (h : Int))]] (2 ^ t * w) a h A' B' := by
          rcases hAB with ⟨_, hA, hB⟩ | ⟨_, hB, hA⟩
          · exact ⟨rfl, by rw [hA, List.length_append]; omega, hB, a2⟩
          · exact ⟨rfl, hA, by rw [hB, List.length_append]; omega, a2⟩
        have hsh : shelfF w [A', B', [some ((a : Int), (h : Int))]] a h = S := by
          have har : areaF [A', B', [some ((a : Int), (h : Int))]] a = S ++ R := by
            rcases hAB with ⟨rfl, hA, _⟩ | ⟨rfl, hB, _⟩
            · exact hA
            · exact hB
          unfold shelfF
          rw [har]
          exact List.take_left' hl
        rw [hek, disk_eq (n := 0) bd dd ht, hsh]
        congr 2
        by_cases q1 : Rises (mendF S)
        · rw [decide_eq_true q1, decide_eq_false (fun z => hb ⟨q1, z⟩)]
          rfl
        · rw [decide_eq_false q1]
          rfl
      · refine disk_no ?_
        have fl : ∀ X : List Thing, X.length ≤ 1000 → FitsAll (encL X) := fun X hX => fitsL (by omega)
        have fS : FitsAll (encL [some ((a : Int), (h : Int))]) := fitsL (by simp)
        rcases hAB with ⟨_, hA, hB⟩ | ⟨_, hB, hA⟩
        · have lA : A'.length = S.length + R.length := by rw [hA, List.length_append]
          exact no_form t4 (fl A' (by omega)) (fl B' (by omega)) fS (.inl (by rw [area_T, decide_eq_false (by omega)]))
        · have lB : B'.length = S.length + R.length := by rw [hB, List.length_append]
          exact no_form t4 (fl A' (by omega)) (fl B' (by omega)) fS (.inr (.inl (by rw [area_T, decide_eq_false (by omega)])))
theorem good_yes {t w st a h : Nat} {k : Dk} {A B ts S : List Thing} {q : Int} (bd : Bd (t : Int) (w : Int) (st : Int)) (d : Dsk k (2 ^ t * w) a h A B) (ht : h ≤ t) (hs : shelfF w k a h = S) (r : Rises ts) (tw : Twice ts S) (hq : ((keysOf ts).length : Int) ≤ 2 ^ h * ((w : Int) - (h : Int) * (st : Int))) :
    m_is_disk [bdD t w st, encK k] = some (.bool true) := by
  obtain ⟨r1, r2⟩ := twice_mend r tw
  rw [disk_eq (n := 0) bd d ht, hs, decide_eq_true r1, decide_eq_true (by rw [filt_len, r2, things_len]; exact hq)]
  rfl
theorem holds (ns : List Int) (hns : ns.length ≤ 63) : m_law [.list (ns.map PyData.int)] = some (.bool true) := by
  obtain ⟨c0, hc0⟩ := cell_ex ns (k := 0) (by decide)
  obtain ⟨t', w', st', hb, bd⟩ := bounds_ex c0
  have hw1 := bd.w1
  have ht0 := bd.t0
  have hs1 := bd.s1
  obtain ⟨t, rfl⟩ : ∃ t : Nat, t' = (t : Int) := ⟨t'.toNat, by omega⟩
  obtain ⟨w, rfl⟩ : ∃ w : Nat, w' = (w : Int) := ⟨w'.toNat, by omega⟩
  obtain ⟨st, rfl⟩ : ∃ st : Nat, st' = (st : Int) := ⟨st'.toNat, by omega⟩
  have t4 : t ≤ 4 := by have := bd.t4; omega
  have w20 : w ≤ 20 := by have := bd.hi; omega
  have hN := pw_ok (k := t) (w := w) t4 (by omega) w20
  obtain ⟨cs, hcs, hcl⟩ := cut_ints ns (some 1) (some 12)
  have hq1 : 1 + cs.length < 16777216 := by omega
  obtain ⟨zs, hz, hzl, hz0⟩ := spreads_comp (0 :: cs) (by simp; omega) (fi := pItL (pOfL (pCat (pOfL (pLst (pCons (pCon (.int 0)) pNil))) (pOfL (pSl (pVar 0) (pPart (pCon (.int 1))) (pPart (pCon (.int 12)))))))) (ρ := [some (.list (ns.map PyData.int)), some (bdD t w st), none, none, none, none, none]) (by clear hns hb; walk_at "pu")
  have loop := for_inv (bs := bs1 2) (F := l_law_1) PyData.int (fun (_ : Unit) ρ => ∃ s2 s3 s4 s5 s6, ρ = [.sh (.list (ns.map PyData.int)), .sh (bdD t w st), s2, s3, s4, s5, s6]) (fun _ _ => ()) zs ?_ ()
    [.sh (.list (ns.map PyData.int)), .sh (bdD t w st), .no, .no, .no, .no, .no] ⟨_, _, _, _, _, rfl⟩
  · obtain ⟨ρ', hf, s2, s3, s4, s5, s6, rfl⟩ := loop
    refine runF_of (o := .rt (.bool true)) rfl ?_ rfl
    unfold b_law
    have hb' : m__law_bounds [.int c0] = some (bdD t w st) := hb
    generalize bdD t w st = Bo at *
    generalize pComp (pItL (pOfL (pCat (pOfL (pLst (pCons (pCon (.int 0)) pNil))) (pOfL (pSl (pVar 0) (pPart (pCon (.int 1))) (pPart (pCon (.int 12)))))))) (bd1 0) pTrue (pCall m__law_spread (pCons (pVar 0) pNil)) 1 [] = PC at *
    refine sq_nx (ρ' := [.sh (.list (ns.map PyData.int)), .sh Bo, .no, .no, .no, .no, .no]) (by clear hf hz hb bd; walk_at "pu") ?_
    refine sq_nx ((for_eq (items := zs.map PyData.int) (by clear hf hb bd; walk_at "pu")).trans hf) (by clear hf hz hb bd; walk_at "pu")
  · rintro _ ρ z hzm ⟨s2, s3, s4, s5, s6, rfl⟩
    clear hz hzl hz0 hzm hcs hcl hq1 hns hc0 hb
    have mt := m_pos (z / 3) (b := (t : Int) + 1) (by omega)
    obtain ⟨h, hh⟩ := Int.eq_ofNat_of_zero_le mt.1
    have hht : h ≤ t := by omega
    have m3 := m_pos (z / 15) (b := 3) (by decide)
    have m2 := m_pos (z / 7) (b := 2) (by decide)
    have m45 := m_pos (z / 45) (b := 2) (by decide)
    obtain ⟨a, ha⟩ := Int.eq_ofNat_of_zero_le m2.1
    have ha2 : a < 2 := by omega
    have hzh := pw_ok (k := h) (w := w) (by omega) (by omega) w20
    have hcap := cap_law (t := t) (w := w) (st := st) (h := h) (by omega)
    rw [tw_nat] at hcap
    have hpc : (2 : Int) ^ h * ((w : Int) - (h : Int) * (st : Int)) = ((2 ^ h : Nat) : Int) * ((w : Int) - (h : Int) * (st : Int)) := by rw [Int.natCast_pow]; rfl
    obtain ⟨r2, rw', rh, rt⟩ := room bd hht
    have hc2 : 2 ≤ ((2 ^ h : Nat) : Int) * ((w : Int) - (h : Int) * (st : Int)) := by
      have p1 : 1 ≤ 2 ^ h := Nat.pow_pos (by decide)
      have a1 : (1 : Int) * 2 ≤ ((2 ^ h : Nat) : Int) * ((w : Int) - (h : Int) * (st : Int)) := Int.mul_le_mul (by omega) r2 (by decide) (by omega)
      omega
    have hpow : 2 ^ h * w ≤ 2 ^ t * w := Nat.mul_le_mul_right w (Nat.pow_le_pow_right (by decide) hht)
    have hgood : ∀ {k : Dk} {A B ts S : List Thing}, Dsk k (2 ^ t * w) a h A B → shelfF w k a h = S → Rises ts → Twice ts S → ((keysOf ts).length : Int) ≤ 2 ^ h * ((w : Int) - (h : Int) * (st : Int)) → m_is_disk [bdD t w st, encK k] = some (.bool true) := fun d e r tw q => good_yes (q := 0) bd d hht e r tw q
    rw [hpc] at hgood
    generalize hCC : ((2 ^ h : Nat) : Int) * ((w : Int) - (h : Int) * (st : Int)) = cap at *
    obtain ⟨ts, hfil, rts, lts, nts⟩ := filled_ex (hh := h) z (cap - z / 15 % 3) bd (by omega)
    have hkn : ((keysOf ts).length : Int) ≤ cap := by omega
    obtain ⟨S, hTw, hSs⟩ : ∃ S, Twice ts S ∧ pIfS (pTest (pOp dEq (pOp dMod (pOp dDiv (pVar 2) (pCon (.int 45))) (pCon (.int 2))) (pCon (.int 1))))
        (pSet 4 (vS (pOfL (pCallL m__law_doubled (pCons (pVar 4) (pCons (pOp dDiv (pVar 2) (pCon (.int 90))) pNil)))))) pNx [.sh (.list (ns.map PyData.int)), .sh (bdD t w st), .sh (.int z), .sh (.int (h : Int)), .sh (encL ts), s5, s6] = some (.nx [.sh (.list (ns.map PyData.int)), .sh (bdD t w st), .sh (.int z), .sh (.int (h : Int)), .sh (encL S), s5, s6]) := by
      by_cases e45 : z / 45 % 2 = 1
      · obtain ⟨S, hS, tw⟩ := doubled_ex (ts := ts) (by omega) (z / 90)
        refine ⟨S, tw, ?_⟩
        have eL : encL S = .list (S.map encD) := rfl
        rw [eL]
        generalize encL ts = LT at *
        generalize S.map encD = SD at *
        generalize bdD t w st = Bo at *
        generalize PyData.list (ns.map PyData.int) = Sc at *
        clear hgood hfil hcap bd eL
        walk_at "pu"
      · refine ⟨ts, ⟨rfl, .inl rfl⟩, ?_⟩
        generalize encL ts = LT at *
        generalize bdD t w st = Bo at *
        generalize PyData.list (ns.map PyData.int) = Sc at *
        clear hgood hfil hcap bd
        walk_at "pu"
    have lS : S.length = 2 ^ h * w := by rw [hTw.len, lts]
    obtain ⟨A, B, hdisk, lA, lB, htake⟩ := disk_ex (h := h) (a := a) z S bd ha2 (by omega)
    have dd : Dsk [A, B, [some ((a : Int), (h : Int))]] (2 ^ t * w) a h A B := ⟨rfl, lA, lB, ha2⟩
    have hshelf : shelfF w [A, B, [some ((a : Int), (h : Int))]] a h = S := by
      unfold shelfF
      rw [← lS]
      exact htake
    have hyes := hgood dd hshelf rts hTw hkn
    obtain ⟨x, hx, hno⟩ := wrong_no bd dd hht (z / 11)
    have hcopy : ∀ (x0 x1 x2 x3 x4 x6 : Option D), pComp (pItL (pVar 5)) (bd1 0) pTrue (pOfL (pCallL gList (pCons (pVar 0) pNil))) 1 [] [x0, x1, x2, x3, x4, some (.list [encL A, encL B, encL [some ((a : Int), (h : Int))]]), x6] = some [encL A, encL B, encL [some ((a : Int), (h : Int))]] := fun x0 x1 x2 x3 x4 x6 => copy_k dd rfl
    have hne : dNe (encK [A, B, [some ((a : Int), (h : Int))]]) (encK [A, B, [some ((a : Int), (h : Int))]]) = some (.bool false) := by
      have := enc_K.dNe (by decide) [A, B, [some ((a : Int), (h : Int))]] [A, B, [some ((a : Int), (h : Int))]]
      rwa [decide_eq_true rfl] at this
    have hek : encK [A, B, [some ((a : Int), (h : Int))]] = .list [encL A, encL B, encL [some ((a : Int), (h : Int))]] := rfl
    have hdisk' : m__law_disk [bdD t w st, .int (h : Int), .int (a : Int), encL S, .int z] = some [encL A, encL B, encL [some ((a : Int), (h : Int))]] := hdisk
    have hfil' : m__law_filled [bdD t w st, .int (h : Int), .int z, .int (cap - z / 15 % 3)] = some (ts.map encD) := hfil
    have hcap' : m__law_cap [bdD t w st, .int (h : Int)] = some (.int cap) := hcap
    have hB0 : dIx (bdD t w st) (.int 0) = some (.int (t : Int)) := rfl
    have p1 : (0 : Int) < (t : Int) + 1 := by omega
    have p2 : (t : Int) + 1 < 1073741824 := by omega
    have hmod : dMod (.int (z / 3)) (.int ((t : Int) + 1)) = some (.int (h : Int)) := by rw [dMod_int, if_pos p1, hh]
    have i1 : dIsB true (.bool true) (.bool true) = some (.bool false) := rfl
    have i2 : dIsB true (.bool false) (.bool false) = some (.bool false) := rfl
    rw [hek] at hyes hx hne
    refine ⟨_, [.sh (.list (ns.map PyData.int)), .sh (bdD t w st), .sh (.int z), .sh (.int (h : Int)), .sh (encL S), .sh (.list [encL A, encL B, encL [some ((a : Int), (h : Int))]]), .sh (.list [encL A, encL B, encL [some ((a : Int), (h : Int))]])], rfl, ?_, _, _, _, _, _, rfl⟩
    have eT : encL ts = .list (ts.map encD) := rfl
    clear hgood hfil hcap hdisk hTw rts lts nts hkn lS lA lB htake dd hshelf bd hek hCC
    generalize encL [some ((a : Int), (h : Int))] = SG at *
    generalize encL A = LA at *
    generalize encL B = LB at *
    generalize encL S = LS at *
    generalize bdD t w st = Bo at *
    generalize PyData.list (ns.map PyData.int) = Sc at *
    unfold l_law_1
    show pSq _ _ [.sh Sc, .sh Bo, .sh (.int z), s3, s4, s5, s6] = _
    refine sq_nx (ρ' := [.sh Sc, .sh Bo, .sh (.int z), .sh (.int (h : Int)), s4, s5, s6]) (by clear hyes hx hno hne hcopy hdisk' hfil' hcap' hSs hh ha eT i1 i2; walk_at "pu") ?_
    refine sq_nx (ρ' := [.sh Sc, .sh Bo, .sh (.int z), .sh (.int (h : Int)), .sh (encL ts), s5, s6]) (by
      rw [eT]
      clear hyes hx hno hne hcopy hdisk' hSs hh ha eT i1 i2 hmod
      generalize ts.map encD = TD at *
      walk_at "pu") ?_
    refine sq_nx hSs ?_
    refine sq_nx (ρ' := [.sh Sc, .sh Bo, .sh (.int z), .sh (.int (h : Int)), .sh LS, .sh (.list [LA, LB, SG]), s6]) (by clear hyes hx hno hne hcopy hfil' hcap' hSs hh eT i1 i2 hmod; walk_at "pu") ?_
    refine sq_nx (ρ' := [.sh Sc, .sh Bo, .sh (.int z), .sh (.int (h : Int)), .sh LS, .sh (.list [LA, LB, SG]), .sh (.list [LA, LB, SG])]) (set_SL 6 (hcopy _ _ _ _ _ _)) ?_
    clear hcopy hdisk' hfil' hcap' hSs hh ha eT hmod
    generalize PyData.list [LA, LB, SG] = E at *
    refine sq_nx (ρ' := [.sh Sc, .sh Bo, .sh (.int z), .sh (.int (h : Int)), .sh LS, .sh E, .sh E]) (by clear hx hno i2; walk_at "pu") ?_
    clear hyes hne i1
    walk_at "pu"
end S22
open PySem PySem.W PyProof.Rows
set_option maxRecDepth 100000 in
set_option maxHeartbeats 0 in
theorem PySem.Challenge.cw_gapshelf_k22_disk_or_not_holds : PySem.Challenge.rw_gapshelf_k22_disk_or_not.Holds := by
  w_on; o_law; k_head; (case hw => w_witness2)
  k_fill
  refine L2.walk_ofK (l := PySem.Challenge.rw_gapshelf_k22_disk_or_not) (n := 63) (k := 7) (x := "script") (CX := L2.CX0) (sp := L2.spLawP) rfl (by decide) rfl ⟨rfl, by decide, by decide⟩ (fun w h Y => PySem.W.kIn_of Y) ?F ?S ?C
  case S => exact fun K H a ns hl hO hS => ⟨a, ns, rfl, hS, hl, fun _ => rfl⟩
  case C => exact fun _ _ _ _ z => z
  case F =>
    intro w mg fa h KX G hmg
    refine' S22.all_mk S22.holds KX G hmg ?a0 ?l0 ?c0 ?k0 ?a1 ?l1 ?c1 ?k1 ?a2 ?l2 ?c2 ?k2 ?a3 ?l3 ?c3 ?k3 ?a4 ?l4 ?c4 ?k4 ?a5 ?l5 ?c5 ?k5 ?a6 ?l6 ?c6 ?k6 ?a7 ?l7 ?c7 ?k7 ?a8 ?l8 ?c8 ?k8 ?a9 ?l9 ?c9 ?k9 ?a10 ?l10 ?c10 ?k10 ?a11 ?l11 ?c11 ?k11 ?a12 ?l12 ?c12 ?k12 ?a13 ?l13 ?c13 ?k13 ?a14 ?l14 ?c14 ?k14 ?a15 ?l15 ?c15 ?k15 ?a16 ?l16 ?c16 ?k16 ?a17 ?l17 ?c17 ?k17 ?a18 ?l18 ?c18 ?k18 ?a19 ?l19 ?c19 ?k19 ?a20 ?l20 ?c20 ?k20 ?a21 ?l21 ?c21 ?k21 ?a22 ?l22 ?c22 ?k22 ?a23 ?l23 ?c23 ?k23 ?a24 ?l24 ?c24 ?k24 ?a25 ?l25 ?c25 ?k25 ?a26 ?l26 ?c26 ?k26 ?a27 ?l27 ?c27 ?k27 ?a28 ?l28 ?c28 ?k28 ?a29 ?l29 ?c29 ?k29 ?a30 ?l30 ?c30 ?k30 ?a31 ?l31 ?c31 ?k31 ?a32 ?l32 ?c32 ?k32 ?a33 ?l33 ?c33 ?k33 ?a34 ?l34 ?c34 ?k34 ?z_all ?z_bool ?z_enumerate ?z_int ?z_isinstance ?z_len ?z_list ?z_max ?z_range ?z_tuple ?z_zip ?z_SIGN_PART
    (case a0 => k_is); (case l0 => k_is); (case c0 => k_is); (case k0 => k_is); (case a1 => k_is); (case l1 => k_is); (case c1 => k_is); (case k1 => k_is); (case a2 => k_is); (case l2 => k_is); (case c2 => k_is); (case k2 => k_is); (case a3 => k_is); (case l3 => k_is); (case c3 => k_is); (case k3 => k_is); (case a4 => k_is); (case l4 => k_is); (case c4 => k_is); (case k4 => k_is); (case a5 => k_is); (case l5 => k_is); (case c5 => k_is); (case k5 => k_is); (case a6 => k_is); (case l6 => k_is); (case c6 => k_is); (case k6 => k_is); (case a7 => k_is); (case l7 => k_is); (case c7 => k_is); (case k7 => k_is); (case a8 => k_is); (case l8 => k_is); (case c8 => k_is); (case k8 => k_is); (case a9 => k_is); (case l9 => k_is); (case c9 => k_is); (case k9 => k_is); (case a10 => k_is); (case l10 => k_is); (case c10 => k_is); (case k10 => k_is); (case a11 => k_is); (case l11 => k_is); (case c11 => k_is); (case k11 => k_is); (case a12 => k_is); (case l12 => k_is); (case c12 => k_is); (case k12 => k_is); (case a13 => k_is); (case l13 => k_is); (case c13 => k_is); (case k13 => k_is); (case a14 => k_is); (case l14 => k_is); (case c14 => k_is); (case k14 => k_is); (case a15 => k_is); (case l15 => k_is); (case c15 => k_is); (case k15 => k_is); (case a16 => k_is); (case l16 => k_is); (case c16 => k_is); (case k16 => k_is); (case a17 => k_is); (case l17 => k_is); (case c17 => k_is); (case k17 => k_is); (case a18 => k_is); (case l18 => k_is); (case c18 => k_is); (case k18 => k_is); (case a19 => k_is); (case l19 => k_is); (case c19 => k_is); (case k19 => k_is); (case a20 => k_is); (case l20 => k_is); (case c20 => k_is); (case k20 => k_is); (case a21 => k_is); (case l21 => k_is); (case c21 => k_is); (case k21 => k_is); (case a22 => k_is); (case l22 => k_is); (case c22 => k_is); (case k22 => k_is); (case a23 => k_is); (case l23 => k_is); (case c23 => k_is); (case k23 => k_is); (case a24 => k_is); (case l24 => k_is); (case c24 => k_is); (case k24 => k_is); (case a25 => k_is); (case l25 => k_is); (case c25 => k_is); (case k25 => k_is); (case a26 => k_is); (case l26 => k_is); (case c26 => k_is); (case k26 => k_is); (case a27 => k_is); (case l27 => k_is); (case c27 => k_is); (case k27 => k_is); (case a28 => k_is); (case l28 => k_is); (case c28 => k_is); (case k28 => k_is); (case a29 => k_is); (case l29 => k_is); (case c29 => k_is); (case k29 => k_is); (case a30 => k_is); (case l30 => k_is); (case c30 => k_is); (case k30 => k_is); (case a31 => k_is); (case l31 => k_is); (case c31 => k_is); (case k31 => k_is); (case a32 => k_is); (case l32 => k_is); (case c32 => k_is); (case k32 => k_is); (case a33 => k_is); (case l33 => k_is); (case c33 => k_is); (case k33 => k_is); (case a34 => k_is); (case l34 => k_is); (case c34 => k_is); (case k34 => k_is); (case z_all => k_is); (case z_bool => k_is); (case z_enumerate => k_is); (case z_int => k_is); (case z_isinstance => k_is); (case z_len => k_is); (case z_list => k_is); (case z_max => k_is); (case z_range => k_is); (case z_tuple => k_is); (case z_zip => k_is); (case z_SIGN_PART => k_is)
#print axioms PySem.Challenge.cw_gapshelf_k22_disk_or_not_holds
