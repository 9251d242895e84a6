import PyProof.Rows.All
import Wide.All
import OpenK.AllK
import Wide.FinOn
import Lean
import PyProof.EqAt
import PyProof.EqKinds
import PyProof.TupleCall
import KE.KIntText
import PyProof.StrOps2
import PyProof.StrLawsTight
import PyProof.StrLawsJoin
import PySem.Challenge.RW_gapshelf_k38_odd_disk_texts
set_option Elab.async false
set_option linter.all false
set_option maxRecDepth 100000
namespace L2
open PySem PySem.Spec PyProof.Rows
abbrev Key := Sum Int Str
def keyIs : Key → Value → Bool
  | .inl k, v => Value.isInt k v
  | .inr x, v => Value.isStrOf x v
def keyH (w : World) : Key → Int
  | .inl k => hashInt k
  | .inr x => hashStr w x
theorem keyIs_shape : ∀ {k : Key} {v : Value}, keyIs k v = true → (∃ i t, k = Sum.inl i ∧ v = Value.int i t) ∨ (∃ x t, k = Sum.inr x ∧ v = Value.str x t)
  | .inl i, v, h => by
    obtain ⟨t, e⟩ := Value.isInt_shape (k := i) (v := v) h
    exact .inl ⟨i, t, rfl, e⟩
  | .inr x, v, h => by
    obtain ⟨t, e⟩ := Value.isStrOf_shape (x := x) (v := v) h
    exact .inr ⟨x, t, rfl, e⟩
theorem key_ll (a b : Int) : decide ((Sum.inl a : Key) = Sum.inl b) = (a == b) := by
  by_cases e : a = b
  · subst e; simp
  · have h : ¬ (Sum.inl a : Key) = Sum.inl b := fun q => e (Sum.inl.inj q)
    rw [decide_eq_false h]
    exact (beq_eq_false_iff_ne.mpr e).symm
theorem key_rr (a b : Str) : decide ((Sum.inr a : Key) = Sum.inr b) = decide (a = b) := by
  by_cases e : a = b
  · subst e; simp
  · have h : ¬ (Sum.inr a : Key) = Sum.inr b := fun q => e (Sum.inr.inj q)
    rw [decide_eq_false h, decide_eq_false e]
theorem key_lr (a : Int) (b : Str) : decide ((Sum.inl a : Key) = Sum.inr b) = false := decide_eq_false (fun q => nomatch q)
theorem key_rl (a : Str) (b : Int) : decide ((Sum.inr a : Key) = Sum.inl b) = false := decide_eq_false (fun q => nomatch q)
def mixKind (prog : Program) (w : World) : PySem.KeyKind prog w Key where
  is := keyIs
  hash := keyH w
  inj := fun v a b ha hb => by
    rcases keyIs_shape ha with ⟨i, t, rfl, rfl⟩ | ⟨x, t, rfl, rfl⟩
    · rcases keyIs_shape hb with ⟨j, u, rfl, e⟩ | ⟨y, u, rfl, e⟩
      · injection e with e1 _; rw [e1]
      · exact nomatch e
    · rcases keyIs_shape hb with ⟨j, u, rfl, e⟩ | ⟨y, u, rfl, e⟩
      · exact nomatch e
      · injection e with e1 _; rw [e1]
  byValue := fun k v h => by
    rcases keyIs_shape h with ⟨i, t, rfl, rfl⟩ | ⟨x, t, rfl, rfl⟩ <;> rfl
  pyHash := fun hv h => by
    rcases keyIs_shape hv with ⟨i, t, rfl, rfl⟩ | ⟨x, t, rfl, rfl⟩
    · exact wpAny_pyHash_int h
    · exact wpAny_pyHash_str h
  eqBool := fun hu hv h => by
    rcases keyIs_shape hu with ⟨i, t, rfl, rfl⟩ | ⟨x, t, rfl, rfl⟩
    · rcases keyIs_shape hv with ⟨j, u, rfl, rfl⟩ | ⟨y, u, rfl, rfl⟩
      · rw [key_ll] at h; exact wpAny_eqBool_int h
      · rw [key_lr] at h; exact SeqAt.EqAt.int_str i t y u _ _ _ _ h
    · rcases keyIs_shape hv with ⟨j, u, rfl, rfl⟩ | ⟨y, u, rfl, rfl⟩
      · rw [key_rl] at h; exact SeqAt.EqAt.str_int x t j u _ _ _ _ h
      · rw [key_rr] at h; exact wpAny_eqBool_str h
  «strs» := fun k x t v h => by
    rcases keyIs_shape h with ⟨i, u, rfl, e⟩ | ⟨y, u, rfl, e⟩
    · exact nomatch e
    · injection e with e1 _
      subst e1
      cases v <;> rfl
end L2
namespace L2
open PySem PySem.Spec PyProof.Rows
inductive V where
  | non | bl (b : Bool) | int (i : Int) | str (x : Str) | byt (b : Array UInt8) | flt (b : UInt64) | ref (a : Addr) | ty (n : String)
  deriving DecidableEq
def RelV : V → Value → Prop
  | .non, u => u = Value.none
  | .bl b, u => u = Value.bool b
  | .int i, u => ∃ t, u = Value.int i t
  | .str x, u => ∃ t, u = Value.str x t
  | .byt b, u => ∃ t, u = Value.bytes b t
  | .flt b, u => ∃ t, u = Value.float b t
  | .ref a, u => u = Value.ref a
  | .ty n, u => u = Value.type n
abbrev Vals : List V → List Value → Prop := Paired RelV
theorem Vals.length {xs : List V} {us : List Value} (r : Vals xs us) : xs.length = us.length := Paired.length r
theorem Vals.get : ∀ {xs : List V} {us : List Value} {i : Nat} {x : V}, Vals xs us → xs[i]? = some x → ∃ u, us[i]? = some u ∧ RelV x u
  | _, _, _, _, .nil, e => by simp at e
  | _, _, 0, _, .cons r _, e => by simp at e; subst e; exact ⟨_, rfl, r⟩
  | _, _, i + 1, x, .cons _ t, e => by
    obtain ⟨u, h1, h2⟩ := Vals.get (i := i) (x := x) t (by simpa using e)
    exact ⟨u, by simpa using h1, h2⟩
theorem Vals.append : ∀ {xs ys : List V} {us ws : List Value}, Vals xs us → Vals ys ws → Vals (xs ++ ys) (us ++ ws)
  | _, _, _, _, .nil, s => s
  | _, _, _, _, .cons r t, s => .cons r (Vals.append t s)
theorem Vals.take : ∀ {xs : List V} {us : List Value} (n : Nat), Vals xs us → Vals (xs.take n) (us.take n)
  | _, _, 0, _ => .nil
  | _, _, _ + 1, .nil => .nil
  | _, _, n + 1, .cons r t => .cons r (Vals.take n t)
theorem Vals.drop : ∀ {xs : List V} {us : List Value} (n : Nat), Vals xs us → Vals (xs.drop n) (us.drop n)
  | _, _, 0, r => r
  | _, _, _ + 1, .nil => .nil
  | _, _, n + 1, .cons _ t => Vals.drop n t
def RelO : Option V → Option Value → Prop
  | some v, some u => RelV v u
  | none, none => True
  | _, _ => False
def KV {κ : Type} : List (κ × V) → List (κ × Value) → Prop := Paired fun (p : κ × V) (q : κ × Value) => p.1 = q.1 ∧ RelV p.2 q.2
def kV : Key → V
  | .inl i => .int i
  | .inr x => .str x
inductive HO where
  | lst (xs : List V)
  | tup (xs : List V)
  | dK (kvs : List (Key × V)) | dT (kvs : List (List Key × V))
  | set (S : Int → Bool) (n : Nat)
  | ins (C dx : Addr) (fs : List (Str × V))
  | own (x : Addr)
  | xd (fs : List (Str × V))
  | met (f x : Addr)
  | rng (lo hi : Int)
  | frz (o : Obj) (u : HO)
  | tbl (ps : Array Value)
  | ext (φ : Heap → Prop)
abbrev Hp := Addr → Option HO
def upd (H : Hp) (a : Addr) (o : HO) : Hp := fun b => if b = a then some o else H b
theorem upd_same {H : Hp} {a : Addr} {o : HO} : upd H a o a = some o := by unfold upd; rw [if_pos rfl]
theorem upd_ne {H : Hp} {a b : Addr} {o : HO} (h : b ≠ a) : upd H a o b = H b := by unfold upd; rw [if_neg h]
theorem ne_of_none {H : Hp} {a b : Addr} {o : HO} (h : H a = some o) (h' : H b = none) : a ≠ b := by
  intro e; subst e; rw [h] at h'; cases h'
section
variable (P : Program) (w : World)
def ObjOk (H : Hp) (h : Heap) (a : Addr) : HO → Prop
  | .lst xs => xs.length ≤ sizeLine ∧ ∃ (its : List Value) (n : Nat), Vals xs its ∧ h.get? a = some { cls := .type "list", data := .seq its.toArray n }
  | .tup xs => xs.length ≤ sizeLine ∧ ∃ its : List Value, Vals xs its ∧ IsTup h a its.toArray
  | .dK kvs => kvs.length ≤ sizeLine ∧ (a == sysModules) = false ∧ ∃ vs, KV kvs vs ∧ h.DictOf (mixKind P w) a vs
  | .dT kvs => kvs.length ≤ sizeLine ∧ (a == sysModules) = false ∧ ∃ xs : List (List Key × Addr × Value),
      Paired (fun (p : List Key × V) (q : List Key × Addr × Value) => p.1 = q.1 ∧ H q.2.1 = some (.tup (p.1.map kV)) ∧ RelV p.2 q.2.2) kvs xs ∧
      ∃ o es ep, h.get? a = some o ∧ o.ExactDict ∧ o.data = .dict es ep ∧ es.toList = xs.map (entryOfKey (tupleKind (mixKind P w))) ∧ (xs.map (·.1)).Nodup
  | .set S n => h.SetOf (intKind P w) a S n
  | .ins C dx fs => H dx = some (.own a) ∧ fs.length ≤ 1000 ∧ dx ≠ a ∧ h.get? a = some (PySem.W.instObj C dx) ∧
      ∃ mA, h.Ns1 dx mA ∧ (∀ f, RelO (fs.lookup f) (mA f)) ∧ PySem.Within mA (fs.map (·.1))
  | .own _ => ∃ o, h.get? a = some o
  | .xd fs => ∃ mA, h.Ns1 a mA ∧ ∀ f, RelO (fs.lookup f) (mA f)
  | .rng lo hi => ∃ t u v, h.get? a = some { cls := .type "range", data := .fields #[.int lo t, .int hi u, .int 1 v] }
  | .frz o u => h.get? a = some o ∧ ObjOk H h a u
  | .tbl ps => h.get? a = some { cls := .none, data := .fields ps }
  | .met f x => h.get? a = some (PySem.W.methodObj (.ref f) (.ref x))
  | .ext φ => φ h ∧ (∃ o, h.get? a = some o) ∧ ∀ h1 h2 : Heap, φ h1 → (∀ o, h1.get? a = some o → h2.get? a = some o) → φ h2
def HOk (H : Hp) (h : Heap) : Prop := ∀ a o, H a = some o → ObjOk P w H h a o
end
section
variable {P : Program} {w : World} {H H' : Hp} {h h' : Heap} {a : Addr} {o : HO}
theorem ObjOk.lt (x : ObjOk P w H h a o) : a < h.objs.size := by
  cases o with
  | lst xs => obtain ⟨_, _, _, _, e⟩ := x; exact Heap.lt_size e
  | tup xs => obtain ⟨_, _, _, p⟩ := x; exact p.lt
  | dK kvs => obtain ⟨_, _, _, _, o, _, _, e, _⟩ := x; exact Heap.lt_size e
  | dT kvs => obtain ⟨_, _, _, _, o, _, _, e, _⟩ := x; exact Heap.lt_size e
  | set S n => obtain ⟨o, _, _, _, e, _⟩ := x; exact Heap.lt_size e
  | ins C dx fs => obtain ⟨_, _, _, e, _⟩ := x; exact Heap.lt_size e
  | own y => obtain ⟨_, e⟩ := x; exact Heap.lt_size e
  | xd fs => obtain ⟨_, ⟨_, _, _, e, _⟩, _⟩ := x; exact Heap.lt_size e
  | rng lo hi => obtain ⟨_, _, _, e⟩ := x; exact Heap.lt_size e
  | frz ob u => obtain ⟨e, _⟩ := x; exact Heap.lt_size e
  | tbl ps => exact Heap.lt_size (show h.get? a = some _ from x)
  | met f y => exact Heap.lt_size (show h.get? a = some _ from x)
  | ext φ => obtain ⟨_, ⟨_, e⟩, _⟩ := x; exact Heap.lt_size e
theorem Paired.mapP {α β : Type} {F G : α → β → Prop} : ∀ {l₁ : List α} {l₂ : List β}, Paired F l₁ l₂ → (∀ a b, F a b → G a b) → Paired G l₁ l₂
  | _, _, .nil, _ => .nil
  | _, _, .cons r t, f => .cons (f _ _ r) (Paired.mapP t f)
theorem ObjOk.stay (x : ObjOk P w H h a o) (k : ∀ b u, (b = a ∨ H b = some (.own a)) → h.get? b = some u → h'.get? b = some u)
    (ho : ∀ b, H b = some (.own a) → H' b = some (.own a)) (ht : ∀ b xs, H b = some (.tup xs) → H' b = some (.tup xs)) : ObjOk P w H' h' a o := by
  induction o with
  | lst xs => obtain ⟨z, its, n, r, e⟩ := x; exact ⟨z, its, n, r, k _ _ (.inl rfl) e⟩
  | tup xs => obtain ⟨z, its, r, ob, e, c⟩ := x; exact ⟨z, its, r, ob, k _ _ (.inl rfl) e, c⟩
  | dK kvs => obtain ⟨z, y, vs, r, ob, es, ep, e, c⟩ := x; exact ⟨z, y, vs, r, ob, es, ep, k _ _ (.inl rfl) e, c⟩
  | dT kvs =>
    obtain ⟨z, y, xs, r, ob, es, ep, e, c⟩ := x
    exact ⟨z, y, xs, Paired.mapP r fun p q z => ⟨z.1, ht _ _ z.2.1, z.2.2⟩, ob, es, ep, k _ _ (.inl rfl) e, c⟩
  | set S n => obtain ⟨ob, es, ep, t, e, c⟩ := x; exact ⟨ob, es, ep, t, k _ _ (.inl rfl) e, c⟩
  | ins C dx fs =>
    obtain ⟨d, z, ne, e, mA, ⟨od, es, ep, e2, c⟩, r⟩ := x
    exact ⟨ho _ d, z, ne, k _ _ (.inl rfl) e, mA, ⟨od, es, ep, k _ _ (.inr d) e2, c⟩, r⟩
  | own y => obtain ⟨ob, e⟩ := x; exact ⟨ob, k _ _ (.inl rfl) e⟩
  | xd fs => obtain ⟨mA, ⟨od, es, ep, e, c⟩, r⟩ := x; exact ⟨mA, ⟨od, es, ep, k _ _ (.inl rfl) e, c⟩, r⟩
  | rng lo hi => obtain ⟨t, u, v, e⟩ := x; exact ⟨t, u, v, k _ _ (.inl rfl) e⟩
  | frz ob u ih => obtain ⟨e, q⟩ := x; exact ⟨k _ _ (.inl rfl) e, ih q⟩
  | tbl ps =>
    have e : h.get? a = some { cls := .none, data := .fields ps } := x
    show h'.get? a = some { cls := .none, data := .fields ps }
    exact k a _ (.inl rfl) e
  | met f y =>
    have e : h.get? a = some (PySem.W.methodObj (.ref f) (.ref y)) := x
    show h'.get? a = some (PySem.W.methodObj (.ref f) (.ref y))
    exact k a _ (.inl rfl) e
  | ext φ => obtain ⟨p, ⟨o, e⟩, st⟩ := x; exact ⟨st _ _ p fun o q => k _ _ (.inl rfl) q, ⟨o, k _ _ (.inl rfl) e⟩, st⟩
theorem HOk.lt (x : HOk P w H h) (e : H a = some o) : a < h.objs.size := (x a o e).lt
theorem HOk.fresh (x : HOk P w H h) (e : h.objs.size ≤ a) : H a = none := by
  cases q : H a with
  | none => rfl
  | some u => exact absurd (Nat.lt_of_lt_of_le (x.lt q) e) (Nat.lt_irrefl _)
theorem HOk.kept (x : HOk P w H h) (k : ∀ b u, h.get? b = some u → h'.get? b = some u) : HOk P w H h' := fun a o e =>
  (x a o e).stay (fun b u _ q => k b u q) (fun _ q => q) fun _ _ q => q
theorem HOk.laid (x : HOk P w H h) (k : ∀ b u, h.get? b = some u → h'.get? b = some u) (hp : h.objs.size ≤ a) (new : ObjOk P w (upd H a o) h' a o) : HOk P w (upd H a o) h' := fun b u e => by
  have hn := x.fresh hp
  by_cases hb : b = a
  · subst hb; rw [upd_same] at e; cases e; exact new
  · rw [upd_ne hb] at e
    exact (x b u e).stay (fun c v _ q => k c v q) (fun c q => by rw [upd_ne (ne_of_none q hn)]; exact q) fun c xs q => by rw [upd_ne (ne_of_none q hn)]; exact q
end
def Rd (H : Hp) (a : Addr) (u : HO) : Prop := H a = some u ∨ ∃ o, H a = some (.frz o u)
theorem Rd.ok {P : Program} {w : World} {H : Hp} {h : Heap} {a : Addr} {u : HO} (r : Rd H a u) (x : HOk P w H h) : ObjOk P w H h a u := by
  rcases r with r | ⟨o, r⟩
  · exact x a u r
  · obtain ⟨_, q⟩ := x a _ r
    exact q
def Mut : Option HO → Prop
  | some (.lst _) => True
  | some (.dK _) => True
  | some (.dT _) => True
  | some (.set _ _) => True
  | some (.ins _ _ _) => True
  | some (.ext _) => True
  | _ => False
section
variable {P : Program} {w : World} {H : Hp} {h h' : Heap} {x e : Addr} {o' : HO}
theorem HOk.write (ok : HOk P w H h) (mu : Mut (H x)) (he : e = x ∨ H e = some (.own x)) (k : ∀ b u, b ≠ e → h.get? b = some u → h'.get? b = some u) (heo : ∃ u, h'.get? e = some u)
    (new : ObjOk P w (upd H x o') h' x o') : HOk P w (upd H x o') h' := fun b u q => by
  have nown : ∀ c y, H c = some (.own y) → c ≠ x := fun c y r z => by subst z; rw [r] at mu; exact mu
  have ntup : ∀ c xs, H c = some (.tup xs) → c ≠ x := fun c xs r z => by subst z; rw [r] at mu; exact mu
  by_cases hb : b = x
  · subst hb; rw [upd_same] at q; cases q; exact new
  · rw [upd_ne hb] at q
    by_cases hbe : b = e
    · have q' : H b = some (.own x) := by
        rcases he with z | z
        · exact absurd (hbe.trans z) hb
        · rw [hbe]; exact z
      rw [q] at q'; cases q'
      obtain ⟨v, hv⟩ := heo
      exact ⟨v, by rw [hbe]; exact hv⟩
    · refine (ok b u q).stay (fun c v hc r => k c v ?_ r) (fun c r => by rw [upd_ne (nown c b r)]; exact r) fun c xs r => by rw [upd_ne (ntup c xs r)]; exact r
      rcases hc with rfl | hc
      · exact hbe
      · rintro rfl
        rcases he with z | z
        · exact nown c b hc z
        · rw [hc] at z; cases z; exact hb rfl
end
structure Un (fs ex : List Addr) (H H' : Hp) (h h' : Heap) : Prop where
  keep : ∀ b o, h.get? b = some o → H b = none → b ∉ fs → b ∉ ex → h'.get? b = some o
  slot : ∀ b o, h.get? b = some o → H b = none → b ∈ fs → b ∉ ex → ∃ sl, h'.get? b = some { o with slots := sl }
  free : ∀ b o, h.get? b = some o → H b = none → b ∉ ex → H' b = none
  there : ∀ b o, h.get? b = some o → b ∉ ex → ∃ o', h'.get? b = some o'
  tups : ∀ b xs, H b = some (.tup xs) → H' b = some (.tup xs)
  frzs : ∀ b o u, H b = some (.frz o u) → H' b = some (.frz o u)
  tbls : ∀ b ps, H b = some (.tbl ps) → ∃ more, H' b = some (.tbl (ps ++ more))
section
variable {fs fs' ex ex' : List Addr} {H H1 H2 : Hp} {h h1 h2 h' : Heap} {a x e : Addr} {o : HO}
theorem Un.any (u : Un fs ex H H1 h h1) {b : Addr} {ob : Obj} (q : h.get? b = some ob) (n : H b = none) (hx : b ∉ ex) : ∃ sl, h1.get? b = some { ob with slots := sl } := by
  by_cases hb : b ∈ fs
  · exact u.slot b ob q n hb hx
  · exact ⟨ob.slots, u.keep b ob q n hb hx⟩
theorem Un.kept (k : ∀ b u, h.get? b = some u → h'.get? b = some u) : Un fs ex H H h h' :=
  ⟨fun b ob q _ _ _ => k b ob q, fun b ob q _ _ _ => ⟨ob.slots, k b ob q⟩, fun _ _ _ n _ => n, fun b ob q _ => ⟨ob, k b ob q⟩, fun _ _ q => q, fun _ _ _ q => q, fun _ ps q => ⟨#[], by rw [q]; simp⟩⟩
theorem Un.refl : Un fs ex H H h h := Un.kept fun _ _ q => q
theorem Un.laid (k : ∀ b u, h.get? b = some u → h'.get? b = some u) (hp : h.objs.size ≤ a) (hn : H a = none) : Un fs ex H (upd H a o) h h' where
  keep := fun b u q _ _ _ => k b u q
  slot := fun b u q _ _ _ => ⟨u.slots, k b u q⟩
  free := fun b u q n _ => by rw [upd_ne (Nat.ne_of_lt (Nat.lt_of_lt_of_le (Heap.lt_size q) hp))]; exact n
  there := fun b u q _ => ⟨u, k b u q⟩
  tups := fun b xs q => by rw [upd_ne (ne_of_none q hn)]; exact q
  frzs := fun b u xs q => by rw [upd_ne (ne_of_none q hn)]; exact q
  tbls := fun b ps q => ⟨#[], by rw [upd_ne (ne_of_none q hn), q]; simp⟩
theorem Un.write (mu : Mut (H x)) (he : e = x ∨ H e = some (.own x)) (k : ∀ b u, b ≠ e → h.get? b = some u → h'.get? b = some u) (heo : ∃ u, h'.get? e = some u) : Un fs ex H (upd H x o) h h' := by
  have hx : ∀ b, H b = none → b ≠ x := fun b n z => by subst z; rw [n] at mu; exact mu
  have hb : ∀ b, H b = none → b ≠ e := fun b n z => by
    subst z
    rcases he with r | r
    · exact hx b n r
    · rw [n] at r; cases r
  have hm : ∀ b u, H b = some u → ¬ Mut (some u) → b ≠ x := fun b u q nm z => by subst z; rw [q] at mu; exact nm mu
  refine ⟨fun b u q n _ _ => k b u (hb b n) q, fun b u q n _ _ => ⟨u.slots, k b u (hb b n) q⟩, fun b u q n _ => by rw [upd_ne (hx b n)]; exact n, fun b u q _ => ?_,
    fun b xs q => by rw [upd_ne (hm b _ q fun z => z)]; exact q, fun b u xs q => by rw [upd_ne (hm b _ q fun z => z)]; exact q, fun b ps q => ⟨#[], by rw [upd_ne (hm b _ q fun z => z), q]; simp⟩⟩
  by_cases hbe : b = e
  · subst hbe; exact heo
  · exact ⟨u, k b u hbe q⟩
end
def trk (h : Heap) (H : Hp) : List Addr := (List.range h.objs.size).filter fun a => (H a).isSome
def hidT (h : Heap) (H : Hp) : Heap := PySem.W.hideAll h (trk h H)
theorem hidT_size (h : Heap) (H : Hp) : (hidT h H).objs.size = h.objs.size := PySem.W.hideAll_size _ _
theorem hidT_get {h : Heap} {H : Hp} {b : Addr} {o : Obj} (e : h.get? b = some o) (n : H b = none) : (hidT h H).get? b = some o :=
  PySem.W.hideAll_get _ e fun hm => by
    have q : (H b).isSome = true := (List.mem_filter.mp hm).2
    rw [n] at q; simp at q
theorem of_hidT {h : Heap} {H : Hp} {b : Addr} {o : Obj} (e : (hidT h H).get? b = some o) : h.get? b = some o ∧ H b = none := by
  have e' : h.get? b = some o := PySem.W.of_hideAll (trk h H) e
  refine ⟨e', ?_⟩
  cases q : H b with
  | none => rfl
  | some x =>
    have hm : b ∈ trk h H := List.mem_filter.mpr ⟨List.mem_range.mpr (Heap.lt_size e'), by simp [q]⟩
    have z : (hidT h H).get? b = none := PySem.W.hideAll_none (trk h H) hm
    rw [z] at e; cases e
def allNews (g h : Heap) (L : Addr) : List (Addr × Obj) := (List.range h.objs.size).filterMap fun a => if a = L ∨ (g.get? a).isSome = true then none else (h.get? a).map fun o => (a, o)
def rest (g h : Heap) (L d : Addr) : List (Addr × Obj) := (allNews g h L).filter fun p => decide (p.1 ≠ d)
end L2
namespace L2
open PySem PySem.Spec PyProof.Rows
structure Mod (K : PySem.W.Frag) (mg : Str → Option Value) (base : Heap) : Prop where
  kin : K.In base
  glob : base.Ns mainGlobals mg
  blt : ∃ mb, base.Ns builtinsNs mb ∧ ∀ x : Str, x ≠ "__name__" → mb x = bootBuiltins x
  nolimit : base.NoLimit
structure Cx where
  prog : Program
  w : World
  K : PySem.W.Frag
  mg : Str → Option Value
  base : Heap
  A : Around
  N : List Str
  s₀ : Shared
  H₀ : Hp
  env : Env
  outer : List Env
  stack : List Env
  ex : List Addr
  fn : Str → Bool
  calm : Bool
  pn : List (Addr × Obj)
  xe : Value → Shared → Prop
def frs (l : List Env) : List Addr := l.filterMap (·.frame)
abbrev Cx.fs (X : Cx) : List Addr := frs X.outer
def Vis (sc : Scope) (x : Str) : Prop := sc.names.lookup x = some .local ∨ sc.names.lookup x = some .cell ∨ sc.names.lookup x = some .free
def Loc (sc : Scope) (x : Str) : Prop := sc.names.lookup x = some .local ∨ sc.names.lookup x = some .cell
def Look (env : Env) (h : Heap) (m : Str → Option Value) (x : Str) (u : Value) : Prop :=
  (env.kindOf x = some .local ∧ m x = some u) ∨ ((env.kindOf x = some .cell ∨ env.kindOf x = some .free) ∧ ∃ c, env.cells.lookup x = some c ∧ h.IsCell c (some u))
structure Cx.Ok (X : Cx) : Prop where
  mod : Mod X.K X.mg X.base
  kind : X.env.scope.kind = .function
  glob : X.env.globals = mainGlobals
  blt : X.env.builtins = builtinsNs
  above : X.s₀.heap.objs.size ≤ X.env.locals
  inj : ∀ x y c, X.env.cells.lookup x = some c → X.env.cells.lookup y = some c → x = y
  has : ∀ x, (X.env.kindOf x = some .cell ∨ X.env.kindOf x = some .free) → ∃ c, X.env.cells.lookup x = some c
  cab : ∀ x c, X.fn x = true → X.env.cells.lookup x = some c → X.s₀.heap.objs.size ≤ c
  hd : X.calm = true → X.A.handled = none
  frames : X.A.frames = some X.stack
  stk : X.stack = X.outer ∨ (X.stack = X.env :: X.outer ∧ X.env.frame = some X.env.locals)
  exf : ∀ b ∈ X.ex, b ≠ X.env.locals ∧ ∀ x c, X.env.cells.lookup x = some c → c ≠ b
  bs : ∀ b o, X.base.get? b = some o → X.s₀.heap.get? b = some o ∧ X.H₀ b = none
  bsz : X.base.objs.size ≤ X.s₀.heap.objs.size
  noex : ∀ b o, X.base.get? b = some o → b ∉ X.ex
  exfs : ∀ b ∈ X.ex, b ∉ X.fs
  funs : X.s₀.heap.FunFrames X.base X.outer
  frf : ∀ b ∈ X.fs, X.H₀ b = none
structure Inv (X : Cx) (pins : List (Addr × Obj)) (σ : List (Option V)) (H : Hp) (s : Shared) : Prop where
  ok : X.Ok
  os : s.os = X.s₀.os
  bare : AllBare s.gens
  base : Un X.fs X.ex X.H₀ H X.s₀.heap s.heap
  loc : ∃ m, s.heap.Ns X.env.locals m ∧ ∀ (i : Nat) (x : Str) (v : V), X.N[i]? = some x → σ[i]? = some (some v) → Vis X.env.scope x → ∃ u, RelV v u ∧ Look X.env s.heap m x u
  cell : ∀ x c, X.env.cells.lookup x = some c → ∃ v, s.heap.IsCell c v
  free : H X.env.locals = none
  freeC : ∀ x c, X.env.cells.lookup x = some c → H c = none
  pin : ∀ p ∈ X.pn ++ pins, s.heap.get? p.1 = some p.2 ∧ H p.1 = none ∧ p.1 ≠ X.env.locals ∧ p.1 ∉ X.fs ∧ ∀ v, p.2.data ≠ .cell v
  hok : HOk X.prog X.w H s.heap
  len : σ.length = X.N.length
section
variable {X : Cx} {pins : List (Addr × Obj)} {σ : List (Option V)} {H H' : Hp} {s : Shared} {h' : Heap}
theorem Cx.Ok.nofr (ok : X.Ok) {b : Addr} {o : Obj} (e : X.base.get? b = some o) : b ∉ X.fs := fun hb => by
  have := (ok.funs.mem hb).1
  rw [e] at this; cases this
theorem Inv.bs (I : Inv X pins σ H s) : ∀ b o, X.base.get? b = some o → s.heap.get? b = some o ∧ H b = none := fun b o e =>
  ⟨I.base.keep b o (I.ok.bs b o e).1 (I.ok.bs b o e).2 (I.ok.nofr e) (I.ok.noex b o e), I.base.free b o (I.ok.bs b o e).1 (I.ok.bs b o e).2 (I.ok.noex b o e)⟩
theorem Inv.bk (I : Inv X pins σ H s) : ∀ b o, X.base.get? b = some o → s.heap.get? b = some o := fun b o e => (I.bs b o e).1
theorem Inv.mod (I : Inv X pins σ H s) : Mod X.K X.mg X.base := I.ok.mod
theorem Inv.kIn (I : Inv X pins σ H s) : X.K.In s.heap := I.ok.mod.kin.keeps I.bk
theorem Inv.lt (I : Inv X pins σ H s) : X.env.locals < s.heap.objs.size := let ⟨_, hn, _⟩ := I.loc; hn.lt
theorem Inv.sz (I : Inv X pins σ H s) : X.s₀.heap.objs.size ≤ s.heap.objs.size := Nat.le_trans I.ok.above (Nat.le_of_lt I.lt)
theorem Inv.nofs (I : Inv X pins σ H s) {a : Addr} (h : s.heap.objs.size ≤ a) : a ∉ X.fs := fun hb => by
  obtain ⟨_, o, ho, _⟩ := I.ok.funs.mem hb
  exact absurd (Nat.lt_of_lt_of_le (Heap.lt_size ho) (Nat.le_trans I.sz h)) (Nat.lt_irrefl _)
theorem Inv.cne (I : Inv X pins σ H s) : ∀ x c, X.env.cells.lookup x = some c → c ≠ X.env.locals := fun x c e z => by
  obtain ⟨v, o, ho, hd⟩ := I.cell x c e
  obtain ⟨m, ⟨o', es, ep, ho', hd', _⟩, _⟩ := I.loc
  rw [z, ho'] at ho; cases ho; rw [hd'] at hd; cases hd
theorem Inv.funs (I : Inv X pins σ H s) : s.heap.FunFrames X.base X.outer := by
  have all : ∀ (l : List Env), (∀ b ∈ frs l, b ∈ X.fs) → X.s₀.heap.FunFrames X.base l → s.heap.FunFrames X.base l := by
    intro l
    induction l with
    | nil => intro _ _; trivial
    | cons env r ih =>
      intro hs hl
      obtain ⟨hk, ⟨L, o, hf, hn, ho, hd⟩, hr⟩ := hl
      have hL : L ∈ X.fs := hs L (by unfold frs; rw [List.filterMap_cons, hf]; exact List.mem_cons_self)
      obtain ⟨sl, e⟩ := I.base.slot L o ho (I.ok.frf L hL) hL fun z => I.ok.exfs L z hL
      exact ⟨hk, ⟨L, _, hf, hn, e, hd⟩, ih (fun b hb => hs b (by unfold frs; rw [List.filterMap_cons, hf]; exact List.mem_cons_of_mem _ hb)) hr⟩
  exact all X.outer (fun _ hb => hb) I.ok.funs
theorem Inv.stack (I : Inv X pins σ H s) : s.heap.FunFrames X.base X.stack := by
  rcases I.ok.stk with e | ⟨e, hf⟩
  · rw [e]; exact I.funs
  · rw [e]
    obtain ⟨m, hn, _⟩ := I.loc
    refine .cons (by rw [I.ok.kind]; decide) hf hn ?_ I.funs
    exact Heap.get?_none_of_le (Nat.le_trans I.ok.bsz I.ok.above)
theorem Inv.stkSub (I : Inv X pins σ H s) : ∀ b ∈ frs X.stack, b ∈ X.env.locals :: X.fs := fun b hb => by
  rcases I.ok.stk with e | ⟨e, hf⟩
  · rw [e] at hb; exact List.mem_cons_of_mem _ hb
  · rw [e] at hb
    unfold frs at hb
    rw [List.filterMap_cons, hf] at hb
    exact hb
theorem Inv.stkFree (I : Inv X pins σ H s) : ∀ b ∈ frs X.stack, H b = none := fun b hb => by
  rcases List.mem_cons.mp (I.stkSub b hb) with e | hb
  · rw [e]; exact I.free
  · obtain ⟨_, o, ho, _⟩ := I.ok.funs.mem hb
    exact I.base.free b o ho (I.ok.frf b hb) fun z => I.ok.exfs b z hb
theorem Inv.step {g' : Array GenState} {t' : Nat} {d' : Drawn} {ch : List Addr} (I : Inv X pins σ H s)
    (hch : ∀ b ∈ ch, (b ∈ X.ex ∨ X.s₀.heap.objs.size ≤ b) ∧ b ≠ X.env.locals ∧ (∀ x c, X.env.cells.lookup x = some c → c ≠ b) ∧ ∀ p ∈ X.pn ++ pins, p.1 ≠ b)
    (keep : ∀ b o, b ≠ X.env.locals → b ∉ X.fs → b ∉ ch → s.heap.get? b = some o → H b = none → h'.get? b = some o)
    (slot : ∀ b o, b ≠ X.env.locals → b ∈ X.fs → b ∉ ch → s.heap.get? b = some o → H b = none → ∃ sl, h'.get? b = some { o with slots := sl }) (free : ∀ b o, b ∉ ch → s.heap.get? b = some o → H b = none → H' b = none)
    (there : ∀ b o, b ∉ ch → s.heap.get? b = some o → ∃ o', h'.get? b = some o')
    (tups : ∀ b xs, H b = some (.tup xs) → H' b = some (.tup xs)) (frzs : ∀ b o u, H b = some (.frz o u) → H' b = some (.frz o u)) (tbls : ∀ b ps, H b = some (.tbl ps) → ∃ more, H' b = some (.tbl (ps ++ more)))
    (ns : ∀ m, s.heap.Ns X.env.locals m → h'.Ns X.env.locals m) (hok : HOk X.prog X.w H' h') (hg : AllBare g') :
    Inv X pins σ H' { s with heap := h', gens := g', drawn := d', toks := t' } := by
  have neL : ∀ b o, X.s₀.heap.get? b = some o → b ≠ X.env.locals := fun b o e => Nat.ne_of_lt (Nat.lt_of_lt_of_le (Heap.lt_size e) I.ok.above)
  have neC : ∀ b o, X.s₀.heap.get? b = some o → b ∉ X.ex → b ∉ ch := fun b o e hx hb => by
    rcases (hch b hb).1 with z | z
    · exact hx z
    · exact absurd (Nat.lt_of_lt_of_le (Heap.lt_size e) z) (Nat.lt_irrefl _)
  have cellK : ∀ x c, X.env.cells.lookup x = some c → ∀ v, s.heap.IsCell c v → h'.IsCell c v := fun x c e v ⟨o, ho, hd⟩ => by
    have nch : c ∉ ch := fun z => (hch c z).2.2.1 x c e rfl
    by_cases hc : c ∈ X.fs
    · obtain ⟨sl, q⟩ := slot c o (I.cne x c e) hc nch ho (I.freeC x c e)
      exact ⟨_, q, hd⟩
    · exact ⟨o, keep c o (I.cne x c e) hc nch ho (I.freeC x c e), hd⟩
  refine ⟨I.ok, I.os, hg, ⟨fun b o e n hb hx => ?_, fun b o e n hb hx => ?_, fun b o e n hx => ?_, fun b o e hx => ?_, fun b xs e => tups b xs (I.base.tups b xs e), fun b o xs e => frzs b o xs (I.base.frzs b o xs e), fun b ps e => ?_⟩, ?_, fun x c e => ?_, ?_, fun x c e => ?_, fun p hp => ?_, hok, I.len⟩
  · exact keep b o (neL b o e) hb (neC b o e hx) (I.base.keep b o e n hb hx) (I.base.free b o e n hx)
  · obtain ⟨sl, e1⟩ := I.base.slot b o e n hb hx
    obtain ⟨sl', e2⟩ := slot b _ (neL b o e) hb (neC b o e hx) e1 (I.base.free b o e n hx)
    exact ⟨sl', e2⟩
  · obtain ⟨o', e1⟩ := I.base.there b o e hx
    exact free b o' (neC b o e hx) e1 (I.base.free b o e n hx)
  · obtain ⟨o', e1⟩ := I.base.there b o e hx
    exact there b o' (neC b o e hx) e1
  · obtain ⟨m1, e1⟩ := I.base.tbls b ps e
    obtain ⟨m2, e2⟩ := tbls b _ e1
    exact ⟨m1 ++ m2, by rw [e2, Array.append_assoc]⟩
  · obtain ⟨m, hn, hl⟩ := I.loc
    refine ⟨m, ns m hn, fun i x v e1 e2 e3 => ?_⟩
    obtain ⟨u, r, l⟩ := hl i x v e1 e2 e3
    refine ⟨u, r, ?_⟩
    rcases l with l | ⟨k, c, e, z⟩
    · exact .inl l
    · exact .inr ⟨k, c, e, cellK x c e _ z⟩
  · obtain ⟨v, z⟩ := I.cell x c e
    exact ⟨v, cellK x c e v z⟩
  · obtain ⟨m, ⟨o, _, _, ho, _⟩, _⟩ := I.loc
    exact free _ o (fun z => (hch _ z).2.1 rfl) ho I.free
  · obtain ⟨v, o, ho, hd⟩ := I.cell x c e
    exact free c o (fun z => (hch c z).2.2.1 x c e rfl) ho (I.freeC x c e)
  · obtain ⟨e, n, ne, nf, d⟩ := I.pin p hp
    have nch : p.1 ∉ ch := fun z => (hch p.1 z).2.2.2 p hp rfl
    exact ⟨keep p.1 p.2 ne nf nch e n, free p.1 p.2 nch e n, ne, nf, d⟩
theorem Inv.un {t' : Nat} (I : Inv X pins σ H s) (u : Un X.fs [] H H' s.heap h') (hok : HOk X.prog X.w H' h') : Inv X pins σ H' { s with heap := h', toks := t' } := by
  obtain ⟨m, ⟨o, es, ep, ho, r⟩, _⟩ := id I.loc
  obtain ⟨sl, hL⟩ := u.any ho I.free (by simp)
  exact I.step (g' := s.gens) (d' := s.drawn) (ch := []) (fun _ z => nomatch z) (fun b o _ hb _ e n => u.keep b o e n hb (by simp)) (fun b o _ hb _ e n => u.slot b o e n hb (by simp)) (fun b o _ e n => u.free b o e n (by simp)) (fun b o _ e => u.there b o e (by simp)) u.tups u.frzs u.tbls (fun m' hm => by
    obtain ⟨o', es', ep', ho', r'⟩ := hm
    rw [ho] at ho'; cases ho'
    exact ⟨_, es', ep', hL, r'⟩) hok I.bare
theorem Inv.call {g' : Array GenState} {t' : Nat} {d' : Drawn} {ch : List Addr} (I : Inv X pins σ H s) (u : Un (frs X.stack) ch H H' s.heap h') (hok : HOk X.prog X.w H' h') (hg : AllBare g')
    (hch : ∀ b ∈ ch, (b ∈ X.ex ∨ X.s₀.heap.objs.size ≤ b) ∧ b ≠ X.env.locals ∧ (∀ x c, X.env.cells.lookup x = some c → c ≠ b) ∧ ∀ p ∈ X.pn ++ pins, p.1 ≠ b) :
    Inv X pins σ H' { s with heap := h', gens := g', drawn := d', toks := t' } := by
  obtain ⟨m, ⟨o, es, ep, ho, r⟩, _⟩ := id I.loc
  obtain ⟨sl, hL⟩ := u.any ho I.free fun z => (hch _ z).2.1 rfl
  exact I.step (ch := ch) hch (fun b o hL hb hc e n => u.keep b o e n (fun z => (List.mem_cons.mp (I.stkSub b z)).elim hL hb) hc) (fun b o _ _ hc e n => u.any e n hc) (fun b o hc e n => u.free b o e n hc) (fun b o hc e => u.there b o e hc) u.tups u.frzs u.tbls (fun m' hm => by
    obtain ⟨o', es', ep', ho', r'⟩ := hm
    rw [ho] at ho'; cases ho'
    exact ⟨_, es', ep', hL, r'⟩) hok hg
theorem Inv.turned {t' : Nat} {it : Addr} (I : Inv X pins σ H s) (k : ∀ b o, b ≠ it → s.heap.get? b = some o → h'.get? b = some o) (hn : H it = none) (hL : it ≠ X.env.locals)
    (h1 : it ∈ X.ex ∨ X.s₀.heap.objs.size ≤ it) (h2 : ∀ x c, X.env.cells.lookup x = some c → c ≠ it) (h3 : ∀ p ∈ X.pn ++ pins, p.1 ≠ it) : Inv X pins σ H { s with heap := h', toks := t' } := by
  have nit : ∀ b u, H b = some u → b ≠ it := fun b u e z => by rw [z, hn] at e; cases e
  refine I.step (g' := s.gens) (d' := s.drawn) (ch := [it]) (fun b hb => ?_) (fun b o _ _ hc e _ => k b o (fun z => hc (by simp [z])) e) (fun b o _ _ hc e _ => ⟨o.slots, k b o (fun z => hc (by simp [z])) e⟩) (fun _ _ _ _ n => n)
    (fun b o hc e => ⟨o, k b o (fun z => hc (by simp [z])) e⟩) (fun _ _ e => e) (fun _ _ _ e => e) (fun b ps e => ⟨#[], by rw [e]; simp⟩) (fun m hm => ?_) (fun b u e => ?_) I.bare
  · have e : b = it := by simpa using hb
    subst e
    exact ⟨h1, hL, h2, h3⟩
  · obtain ⟨o, es, ep, ho, r⟩ := hm
    exact ⟨o, es, ep, k _ o (Ne.symm hL) ho, r⟩
  · refine (I.hok b u e).stay (fun c v hc q => k c v ?_ q) (fun _ q => q) fun _ _ q => q
    rcases hc with z | z
    · rw [z]; exact nit b u e
    · exact nit c _ z
theorem Inv.tok (I : Inv X pins σ H s) (t : Nat) : Inv X pins σ H { s with toks := t } := I.un (h' := s.heap) (t' := t) Un.refl I.hok
theorem Inv.kept {t' : Nat} (I : Inv X pins σ H s) (k : ∀ b u, s.heap.get? b = some u → h'.get? b = some u) : Inv X pins σ H { s with heap := h', toks := t' } := I.un (Un.kept k) (I.hok.kept k)
theorem Inv.laid {a : Addr} {o : HO} {t' : Nat} (I : Inv X pins σ H s) (k : ∀ b u, s.heap.get? b = some u → h'.get? b = some u) (hp : s.heap.objs.size ≤ a) (new : ObjOk X.prog X.w (upd H a o) h' a o) :
    Inv X pins σ (upd H a o) { s with heap := h', toks := t' } := I.un (Un.laid k hp (I.hok.fresh hp)) (I.hok.laid k hp new)
theorem Inv.write {x e : Addr} {o : HO} {t' : Nat} (I : Inv X pins σ H s) (mu : Mut (H x)) (he : e = x ∨ H e = some (.own x)) (k : ∀ b u, b ≠ e → s.heap.get? b = some u → h'.get? b = some u) (heo : ∃ u, h'.get? e = some u)
    (new : ObjOk X.prog X.w (upd H x o) h' x o) : Inv X pins σ (upd H x o) { s with heap := h', toks := t' } := I.un (Un.write mu he k heo) (I.hok.write mu he k heo new)
theorem Inv.weak {σ' : List (Option V)} (I : Inv X pins σ H s) (hl : σ'.length = σ.length) (w : ∀ (i : Nat) v, σ'[i]? = some (some v) → σ[i]? = some (some v)) : Inv X pins σ' H s :=
  ⟨I.ok, I.os, I.bare, I.base, let ⟨m, hn, hl'⟩ := I.loc; ⟨m, hn, fun i x v e1 e2 e3 => hl' i x v e1 (w i v e2) e3⟩, I.cell, I.free, I.freeC, I.pin, I.hok, hl.trans I.len⟩
theorem Inv.pins_of {pins' : List (Addr × Obj)} (I : Inv X pins σ H s) (h : ∀ p ∈ pins', s.heap.get? p.1 = some p.2 ∧ H p.1 = none ∧ p.1 ≠ X.env.locals ∧ p.1 ∉ X.fs ∧ ∀ v, p.2.data ≠ .cell v) : Inv X pins' σ H s :=
  ⟨I.ok, I.os, I.bare, I.base, I.loc, I.cell, I.free, I.freeC, fun p hp => (List.mem_append.mp hp).elim (fun z => I.pin p (List.mem_append_left _ z)) (h p), I.hok, I.len⟩
theorem nodup_ix {N : List Str} (hN : N.Nodup) {i j : Nat} {x : Str} (a : N[i]? = some x) (b : N[j]? = some x) : i = j := by
  obtain ⟨h1, e1⟩ := List.getElem?_eq_some_iff.mp a
  obtain ⟨h2, e2⟩ := List.getElem?_eq_some_iff.mp b
  exact (List.getElem_inj hN).mp (e1.trans e2.symm)
theorem store_ok2 {M : Model} {A : Around} {E : Value → Shared → Prop} {i : Nat} {x : Str} {v : V} {u : Value} {Q : Unit → Shared → Prop} (I : Inv X pins σ H s) (hN : X.N.Nodup) (hi : X.N[i]? = some x) (hx : Loc X.env.scope x) (r : RelV v u)
    (h : ∀ s', Inv X pins (σ.set i (some v)) H s' → (∃ a, Heap.SameBut a s.heap s'.heap ∧ (a = X.env.locals ∨ X.env.cells.lookup x = some a)) → Q () s') (hf : X.fn x = true ∨ X.env.scope.names.lookup x = some .local := by first | exact .inl rfl | exact .inr rfl | assumption) : wpAny M A (storeName X.env x u) Q E s := by
  obtain ⟨m, hn, hl⟩ := id I.loc
  have hcls : (X.env.scope.kind == .class || (X.env.scope.kind == .module && X.env.locals != X.env.globals)) = false := by rw [I.ok.kind]; rfl
  have hiσ : i < σ.length := by rw [I.len]; exact (List.getElem?_eq_some_iff.mp hi).1
  have cne := I.cne
  have tracked : ∀ {a : Addr} {h' : Heap}, (∃ o, s.heap.get? a = some o ∧ H a = none) → Heap.SameBut a s.heap h' → HOk X.prog X.w H h' := fun {a h'} ha hs b ob e => by
    obtain ⟨_, _, hfree⟩ := ha
    refine (I.hok b ob e).stay (fun c w' hc q => (hs.2 c ?_).trans q) (fun _ q => q) fun _ _ q => q
    rintro rfl
    rcases hc with rfl | hc
    · rw [hfree] at e; cases e
    · rw [hfree] at hc; cases hc
  rcases hx with hk | hk
  · refine wpAny_storeName_local hk hn (fun h' hn' hs => ?_) hcls
    obtain ⟨oL, _, _, hoL, _⟩ := id hn
    refine h _ ⟨I.ok, I.os, I.bare, ⟨fun b o e n hb hx => ?_, fun b o e n hb hx => ?_, I.base.free, fun b o e hx => ?_, I.base.tups, I.base.frzs, I.base.tbls⟩, ⟨_, hn', fun j y v' e1 e2 e3 => ?_⟩, fun y c e => ?_, I.free, I.freeC, fun p hp => ?_, tracked ⟨oL, hoL, I.free⟩ hs, by simpa using I.len⟩ ⟨_, hs, .inl rfl⟩
    · exact (hs.2 b (Nat.ne_of_lt (Nat.lt_of_lt_of_le (Heap.lt_size e) I.ok.above))).trans (I.base.keep b o e n hb hx)
    · obtain ⟨sl, e1⟩ := I.base.slot b o e n hb hx
      exact ⟨sl, (hs.2 b (Nat.ne_of_lt (Nat.lt_of_lt_of_le (Heap.lt_size e) I.ok.above))).trans e1⟩
    · obtain ⟨o', e1⟩ := I.base.there b o e hx
      exact ⟨o', (hs.2 b (Nat.ne_of_lt (Nat.lt_of_lt_of_le (Heap.lt_size e) I.ok.above))).trans e1⟩
    · by_cases hj : j = i
      · subst hj
        rw [hi] at e1; cases e1
        rw [List.getElem?_set_self hiσ] at e2
        cases e2
        exact ⟨u, r, .inl ⟨hk, by simp⟩⟩
      · rw [List.getElem?_set_ne (Ne.symm hj)] at e2
        obtain ⟨u', r', q⟩ := hl j y v' e1 e2 e3
        refine ⟨u', r', ?_⟩
        rcases q with ⟨k, e⟩ | ⟨k, c, e, z⟩
        · refine .inl ⟨k, ?_⟩
          have : y ≠ x := fun e => hj (nodup_ix hN e1 (e ▸ hi))
          simp [this, e]
        · exact .inr ⟨k, c, e, z.sameBut hs (cne y c e)⟩
    · obtain ⟨w', z⟩ := I.cell y c e
      exact ⟨w', z.sameBut hs (cne y c e)⟩
    · obtain ⟨e, n, ne, nf, d⟩ := I.pin p hp
      exact ⟨(hs.2 p.1 ne).trans e, n, ne, nf, d⟩
  · have hfn : X.fn x = true := by
      rcases hf with z | z
      · exact z
      · rw [z] at hk; cases hk
    obtain ⟨c, hc⟩ := I.ok.has x (.inl hk)
    obtain ⟨w', z⟩ := I.cell x c hc
    refine wpAny_storeName_cell I.ok.kind hk hc z (fun h' hc' hs => ?_)
    obtain ⟨oc, hoc, hocd⟩ := id z
    refine h { s with heap := h' } ⟨I.ok, I.os, I.bare, ⟨fun b o e n hb hx => ?_, fun b o e n hb hx => ?_, I.base.free, fun b o e hx => ?_, I.base.tups, I.base.frzs, I.base.tbls⟩, ⟨m, hn.sameBut hs (Ne.symm (cne x c hc)), fun j y v' e1 e2 e3 => ?_⟩, fun y c' e => ?_, I.free, I.freeC, fun p hp => ?_, tracked ⟨oc, hoc, I.freeC x c hc⟩ hs, by simpa using I.len⟩ ⟨c, hs, .inr hc⟩
    · exact (hs.2 b (Nat.ne_of_lt (Nat.lt_of_lt_of_le (Heap.lt_size e) (I.ok.cab x c hfn hc)))).trans (I.base.keep b o e n hb hx)
    · obtain ⟨sl, e1⟩ := I.base.slot b o e n hb hx
      exact ⟨sl, (hs.2 b (Nat.ne_of_lt (Nat.lt_of_lt_of_le (Heap.lt_size e) (I.ok.cab x c hfn hc)))).trans e1⟩
    · obtain ⟨o', e1⟩ := I.base.there b o e hx
      exact ⟨o', (hs.2 b (Nat.ne_of_lt (Nat.lt_of_lt_of_le (Heap.lt_size e) (I.ok.cab x c hfn hc)))).trans e1⟩
    · by_cases hj : j = i
      · subst hj
        rw [hi] at e1; cases e1
        rw [List.getElem?_set_self hiσ] at e2
        cases e2
        exact ⟨u, r, .inr ⟨.inl hk, c, hc, hc'⟩⟩
      · rw [List.getElem?_set_ne (Ne.symm hj)] at e2
        obtain ⟨u', r', q⟩ := hl j y v' e1 e2 e3
        refine ⟨u', r', ?_⟩
        rcases q with q | ⟨k, c', e, z'⟩
        · exact .inl q
        · refine .inr ⟨k, c', e, z'.sameBut hs ?_⟩
          rintro rfl
          exact hj (nodup_ix hN e1 (I.ok.inj _ _ _ e hc ▸ hi))
    · by_cases hcc : c' = c
      · subst hcc; exact ⟨_, hc'⟩
      · obtain ⟨w2, z2⟩ := I.cell y c' e
        exact ⟨w2, z2.sameBut hs hcc⟩
    · obtain ⟨e, n, ne, nf, d⟩ := I.pin p hp
      refine ⟨(hs.2 p.1 ?_).trans e, n, ne, nf, d⟩
      intro q
      rw [q, hoc] at e
      have q' : oc = p.2 := Option.some.inj e
      exact d w' (by rw [← q']; exact hocd)
theorem store_ok {M : Model} {A : Around} {E : Value → Shared → Prop} {i : Nat} {x : Str} {v : V} {u : Value} {Q : Unit → Shared → Prop} (I : Inv X pins σ H s) (hN : X.N.Nodup) (hi : X.N[i]? = some x) (hx : Loc X.env.scope x) (r : RelV v u)
    (h : ∀ s', Inv X pins (σ.set i (some v)) H s' → Q () s') (hf : X.fn x = true ∨ X.env.scope.names.lookup x = some .local := by first | exact .inl rfl | exact .inr rfl | assumption) : wpAny M A (storeName X.env x u) Q E s :=
  store_ok2 I hN hi hx r (fun s' I' _ => h s' I') hf
theorem Inv.call' {s' : Shared} {ch : List Addr} (I : Inv X pins σ H s) (ho : s'.os = s.os) (u : Un (frs X.stack) ch H H' s.heap s'.heap) (hok : HOk X.prog X.w H' s'.heap) (hg : AllBare s'.gens)
    (hch : ∀ b ∈ ch, (b ∈ X.ex ∨ X.s₀.heap.objs.size ≤ b) ∧ b ≠ X.env.locals ∧ (∀ x c, X.env.cells.lookup x = some c → c ≠ b) ∧ ∀ p ∈ X.pn ++ pins, p.1 ≠ b) : Inv X pins σ H' s' := by
  obtain ⟨h', g', d', t', o'⟩ := s'
  have e : o' = s.os := ho
  subst e
  exact I.call (g' := g') (t' := t') (d' := d') u hok hg hch
end
abbrev XK := Value → Option Addr → Hp → Prop
abbrev St := List (Option V)
abbrev VK := V → Hp → Prop
abbrev TE := St → Hp → VK → Prop
abbrev TT := St → Hp → (Bool → Hp → Prop) → Prop
abbrev TA := St → Hp → (List V → Hp → Prop) → Prop
structure Ends where
  nx : St → Hp → Prop
  rt : VK
  bk : St → Hp → Prop := fun _ _ => False
  ct : St → Hp → Prop := fun _ _ => False
abbrev TS := Ends → St → Hp → Prop
def EP (X : Cx) (pins : List (Addr × Obj)) (σ : St) (Q : VK) (u : Value) (s' : Shared) : Prop := ∃ v H', Inv X pins σ H' s' ∧ RelV v u ∧ Q v H'
def TP (X : Cx) (pins : List (Addr × Obj)) (σ : St) (Q : Bool → Hp → Prop) (b : Bool) (s' : Shared) : Prop := ∃ H', Inv X pins σ H' s' ∧ Q b H'
def AP (X : Cx) (pins : List (Addr × Obj)) (σ : St) (Q : List V → Hp → Prop) (us : List Value) (s' : Shared) : Prop := ∃ vs H', Inv X pins σ H' s' ∧ Vals vs us ∧ Q vs H'
def SP (X : Cx) (pins : List (Addr × Obj)) (D : Ends) (f : Flow) (s' : Shared) : Prop :=
  match f with
  | .next => ∃ σ' H', Inv X pins σ' H' s' ∧ D.nx σ' H'
  | .brk => ∃ σ' H', Inv X pins σ' H' s' ∧ D.bk σ' H'
  | .cont => ∃ σ' H', Inv X pins σ' H' s' ∧ D.ct σ' H'
  | .ret u => ∃ v σ' H', Inv X pins σ' H' s' ∧ RelV v u ∧ D.rt v H'
def PE (X : Cx) (e : Expr) (t : TE) : Prop :=
  ∀ (pins : List (Addr × Obj)) (s : Shared) (σ : St) (H : Hp) (Q : VK), Inv X pins σ H s → t σ H Q → wpAny (model X.prog X.w) X.A (eval e X.env) (EP X pins σ Q) X.xe s
def PT (X : Cx) (e : Expr) (t : TT) : Prop :=
  ∀ (pins : List (Addr × Obj)) (s : Shared) (σ : St) (H : Hp) (Q : Bool → Hp → Prop), Inv X pins σ H s → t σ H Q → wpAny (model X.prog X.w) X.A (isTrue e X.env (eval e X.env)) (TP X pins σ Q) X.xe s
def PW (X : Cx) (e : Expr) (t : TT) : Prop :=
  ∀ (whole : Sem Value) (pins : List (Addr × Obj)) (s : Shared) (σ : St) (H : Hp) (Q : Bool → Hp → Prop), Inv X pins σ H s → t σ H Q → wpAny (model X.prog X.w) X.A (isTrue e X.env whole) (TP X pins σ Q) X.xe s
theorem PW.pt {X : Cx} {e : Expr} {t : TT} (h : PW X e t) : PT X e t := h _
def PA (X : Cx) (es : List Expr) (t : TA) : Prop :=
  ∀ (pos : Pos) (pins : List (Addr × Obj)) (s : Shared) (σ : St) (H : Hp) (Q : List V → Hp → Prop), Inv X pins σ H s → t σ H Q → wpAny (model X.prog X.w) X.A (spliced (backTo pos (starEach es X.env))) (AP X pins σ Q) X.xe s
def PS (X : Cx) (st : Stmt) (t : TS) : Prop :=
  ∀ (pins : List (Addr × Obj)) (s : Shared) (σ : St) (H : Hp) (D : Ends), Inv X pins σ H s → t D σ H → wpAny (model X.prog X.w) X.A (exec st X.env) (SP X pins D) X.xe s
def PSs (X : Cx) (st : List Stmt) (t : TS) : Prop :=
  ∀ (pins : List (Addr × Obj)) (s : Shared) (σ : St) (H : Hp) (D : Ends), Inv X pins σ H s → t D σ H → wpAny (model X.prog X.w) X.A (execs st X.env) (SP X pins D) X.xe s
theorem thn {α : Type} {t : Sem α} {Q Q' : α → Shared → Prop} {M : Model} {A : Around} {E : Value → Shared → Prop} {s : Shared} (h : wpAny M A t Q E s) (hQ : ∀ a s, Q a s → Q' a s) : wpAny M A t Q' E s := wpAny_mono h hQ fun _ _ x => x
end L2
namespace L2
open PySem PySem.Spec PyProof.Rows
section
variable {X : Cx}
def tVar (i : Nat) : TE := fun σ H Q => ∃ v, σ[i]? = some (some v) ∧ Q v H
def tC (v : V) : TE := fun _ H Q => Q v H
theorem pe_var {i : Nat} {x : Str} {pos : Pos} (hN : X.N[i]? = some x) (hv : Vis X.env.scope x) (hd : (x == ("__debug__" : Str)) = false := by decide) (hcd : (x == ("__classdict__" : Str)) = false := by decide) : PE X (.Name x pos) (tVar i) := by
  intro pins s σ H Q I h
  obtain ⟨v, e, h⟩ := h
  obtain ⟨m, hn, hl⟩ := I.loc
  obtain ⟨u, r, l⟩ := hl i x v hN e hv
  have fin : EP X pins σ Q u s := ⟨v, H, I, r, h⟩
  rcases l with ⟨hk, hm⟩ | ⟨hk, c, hc, hcell⟩
  · exact wpAny_Name (wpAny_loadName_local I.ok.kind hk hn hm fin) hd
  · rcases hk with hk | hk
    · exact wpAny_Name (wpAny_loadName_cell I.ok.kind hk hc hcell fin) hd
    · exact wpAny_Name (wpAny_loadName_free I.ok.kind hk hc hcell fin hcd) hd
theorem pe_int {i j pos} : PE X (.Constant (.int i) j pos) (tC (.int i)) := fun _ _ _ H _ I h => wpAny_Constant_int ⟨.int i, H, I.tok _, ⟨_, rfl⟩, h⟩
theorem pe_bl {b j pos} : PE X (.Constant (.bool b) j pos) (tC (.bl b)) := fun _ _ _ H _ I h => Constant_bool ⟨.bl b, H, I, rfl, h⟩
theorem pe_non {j pos} : PE X (.Constant .none j pos) (tC .non) := fun _ _ _ H _ I h => Constant_none ⟨.non, H, I, rfl, h⟩
theorem pe_str {x j pos} : PE X (.Constant (.str x) j pos) (tC (.str x)) := fun _ _ _ H _ I h => Calls.Constant_str ⟨.str x, H, I.tok _, ⟨_, rfl⟩, h⟩
def Gl (X : Cx) (x : Str) : Prop := X.env.kindOf x = some .globalImplicit
theorem ld_glob {E : Value → Shared → Prop} {pins : List (Addr × Obj)} {s : Shared} {σ : St} {H : Hp} {x : Str} {u : Value} {pos : Pos} {Q : Value → Shared → Prop} (I : Inv X pins σ H s) (hg : Gl X x) (hm : X.mg x = some u) (h : Q u s)
    (hd : (x == ("__debug__" : Str)) = false := by decide) : wpAny (model X.prog X.w) X.A (eval (.Name x pos) X.env) Q E s :=
  Calls.Name_function_global I.ok.kind hg (Calls.loadGlobal_global (by rw [I.ok.glob]; exact I.mod.glob.keeps I.bk) hm h) hd
theorem ld_blt {E : Value → Shared → Prop} {pins : List (Addr × Obj)} {s : Shared} {σ : St} {H : Hp} {x : Str} {u : Value} {pos : Pos} {Q : Value → Shared → Prop} (I : Inv X pins σ H s) (hg : Gl X x) (hm : X.mg x = none) (hv : bootBuiltins x = some u) (h : Q u s)
    (hn : x ≠ "__name__" := by decide) (hd : (x == ("__debug__" : Str)) = false := by decide) : wpAny (model X.prog X.w) X.A (eval (.Name x pos) X.env) Q E s := by
  obtain ⟨mb, h1, h2⟩ := I.mod.blt
  exact Calls.Name_function_global I.ok.kind hg (Calls.loadGlobal_builtin (by rw [I.ok.glob]; exact I.mod.glob.keeps I.bk) hm (by rw [I.ok.blt]; exact h1.keeps I.bk) ((h2 x hn).trans hv) h) hd
theorem pe_glob {x : Str} {v : V} {u : Value} {pos : Pos} (hg : Gl X x) (hm : X.mg x = some u) (r : RelV v u) (hd : (x == ("__debug__" : Str)) = false := by decide) : PE X (.Name x pos) (tC v) :=
  fun _ _ _ H _ I h => ld_glob I hg hm ⟨v, H, I, r, h⟩ hd
theorem pe_bltn {x : Str} {v : V} {u : Value} {pos : Pos} (hg : Gl X x) (hm : X.mg x = none) (hv : bootBuiltins x = some u) (r : RelV v u) (hn : x ≠ "__name__" := by decide) (hd : (x == ("__debug__" : Str)) = false := by decide) : PE X (.Name x pos) (tC v) :=
  fun _ _ _ H _ I h => ld_blt I hg hm hv ⟨v, H, I, r, h⟩ hn hd
variable {a b : Expr} {ta tb : TE} {pos : Pos}
def PC (X : Cx) (op : CmpOp) (a b : Expr) (t : TE) : Prop :=
  ∀ (pins : List (Addr × Obj)) (s : Shared) (σ : St) (H : Hp) (Q : VK), Inv X pins σ H s → t σ H Q →
    wpAny (model X.prog X.w) X.A (eval a X.env) (fun v s₁ => wpAny (model X.prog X.w) X.A (eval b X.env) (fun u s₂ => wpAny (model X.prog X.w) X.A (compareOp op v u) (EP X pins σ Q) X.xe s₂) X.xe s₁) X.xe s
def tB (t : TE) : TT := fun σ H Q => t σ H fun x H1 => ∃ c, x = .bl c ∧ Q c H1
theorem pt_val {e : Expr} {t : TE} (h : PE X e t) (he : ∀ whole, isTrue e X.env whole = (do let v ← whole; standAt e.pos; holding [v] (truthy v)) := by intro _; rfl) : PT X e (tB t) := by
  intro pins s σ H Q I hw
  refine isTrue_plain (thn (h pins s σ H _ I hw) fun v s1 ⟨x, H1, I1, r1, q1⟩ => ?_) (he _)
  obtain ⟨d, rfl, q⟩ := q1
  cases r1
  exact wpAny_truthy_bool ⟨H1, I1, q⟩
variable {tA tB' : TT} {rest : List Expr}
def tAnd (t u : TT) : TT := fun σ H Q => t σ H fun c H1 => if c = true then u σ H1 Q else Q false H1
def tOr (t u : TT) : TT := fun σ H Q => t σ H fun c H1 => if c = true then Q true H1 else u σ H1 Q
def tNot (t : TT) : TT := fun σ H Q => t σ H fun c H1 => Q (!c) H1
theorem pw_and1 (ha : PT X a tA) : PW X (.BoolOp .And [a] pos) tA := by
  intro wh pins s σ H Q I h
  refine isTrue_and (thn (ha pins s σ H Q I h) fun c s1 e => ?_)
  cases c with
  | true => exact isTrue_and_nil e
  | false => exact e
theorem pw_or1 (ha : PT X a tA) : PW X (.BoolOp .Or [a] pos) tA := by
  intro wh pins s σ H Q I h
  refine isTrue_or (thn (ha pins s σ H Q I h) fun c s1 e => ?_)
  cases c with
  | false => exact isTrue_or_nil e
  | true => exact e
theorem pw_and (ha : PT X a tA) (hb : PW X (.BoolOp .And (b :: rest) pos) tB') : PW X (.BoolOp .And (a :: b :: rest) pos) (tAnd tA tB') := by
  intro wh pins s σ H Q I h
  refine isTrue_and (thn (ha pins s σ H _ I h) fun c s1 ⟨H1, I1, q1⟩ => ?_)
  cases c with
  | true => exact hb wh pins s1 σ H1 Q I1 q1
  | false => exact ⟨H1, I1, q1⟩
theorem pw_or (ha : PT X a tA) (hb : PW X (.BoolOp .Or (b :: rest) pos) tB') : PW X (.BoolOp .Or (a :: b :: rest) pos) (tOr tA tB') := by
  intro wh pins s σ H Q I h
  refine isTrue_or (thn (ha pins s σ H _ I h) fun c s1 ⟨H1, I1, q1⟩ => ?_)
  cases c with
  | true => exact ⟨H1, I1, q1⟩
  | false => exact hb wh pins s1 σ H1 Q I1 q1
theorem pt_not (ha : PT X a tA) : PT X (.UnaryOp .Not a pos) (tNot tA) := by
  intro pins s σ H Q I h
  exact isTrue_not (ha pins s σ H (fun c H1 => Q (!c) H1) I h)
def tAndV (ta tb : TE) : TE := fun σ H Q => ta σ H fun x H1 => ∃ c, x = .bl c ∧ if c = true then tb σ H1 Q else Q (.bl false) H1
def tNotV (ta : TE) : TE := fun σ H Q => ta σ H fun x H1 => ∃ c, x = .bl c ∧ Q (.bl (!c)) H1
theorem pe_one {op} {t : TE} (h : PE X a t) : PE X (.BoolOp op [a] pos) t := fun pins s σ H Q I hw => BoolOp_one (h pins s σ H Q I hw)
theorem pe_and (ha : PE X a ta) (hb : PE X (.BoolOp .And (b :: rest) pos) tb) : PE X (.BoolOp .And (a :: b :: rest) pos) (tAndV ta tb) := by
  intro pins s σ H Q I h
  refine BoolOp_and (thn (ha pins s σ H _ I h) fun v s1 ⟨x, H1, I1, r1, q1⟩ => ?_)
  obtain ⟨c, rfl, q1⟩ := q1
  cases r1
  refine wpAny_truthy_bool ?_
  cases c with
  | true => exact hb pins s1 σ H1 Q I1 q1
  | false => exact ⟨.bl false, H1, I1, rfl, q1⟩
theorem pe_not (ha : PE X a ta) : PE X (.UnaryOp .Not a pos) (tNotV ta) := by
  intro pins s σ H Q I h
  refine UnaryOp_ (thn (ha pins s σ H _ I h) fun v s1 ⟨x, H1, I1, r1, q1⟩ => ?_)
  obtain ⟨c, rfl, q1⟩ := q1
  cases r1
  exact not_of (wpAny_truthy_bool ⟨.bl (!c), H1, I1, rfl, q1⟩)
def tIf (t : TT) (ta tb : TE) : TE := fun σ H Q => t σ H fun c H1 => if c = true then ta σ H1 Q else tb σ H1 Q
theorem pe_ifExp {c : Expr} (hc : PT X c tA) (ha : PE X a ta) (hb : PE X b tb) : PE X (.IfExp c a b pos) (tIf tA ta tb) := by
  intro pins s σ H Q I h
  refine wpAny_IfExp (thn (hc pins s σ H _ I h) fun d s1 ⟨H1, I1, q1⟩ => ?_)
  cases d with
  | true => exact ha pins s1 σ H1 Q I1 q1
  | false => exact hb pins s1 σ H1 Q I1 q1
end
end L2
namespace L2
open PySem PySem.Spec PyProof.Rows
def SqL (K : PySem.W.Frag) (H : Hp) (a : Addr) (xs : List V) : Prop :=
  Rd H a (.lst xs) ∨
    ∃ (o : Obj) (its : Array Value) (n : Nat), K.lookup a = some o ∧ o.cls = .type "list" ∧ o.dict = none ∧ o.data = .seq its n ∧ its.size ≤ sizeLine ∧ Vals xs its.toList
def SqT (K : PySem.W.Frag) (H : Hp) (a : Addr) (xs : List V) : Prop :=
  Rd H a (.tup xs) ∨
    ∃ (o : Obj) (its : Array Value) (n : Nat), K.lookup a = some o ∧ o.cls = .type "tuple" ∧ o.data = .seq its n ∧ its.size ≤ sizeLine ∧ Vals xs its.toList
def absV : Value → Option V
  | .none => some .non
  | .bool b => some (.bl b)
  | .int i _ => some (.int i)
  | .str x _ => some (.str x)
  | .bytes b _ => some (.byt b)
  | .float b _ => some (.flt b)
  | .ref a => some (.ref a)
  | .type n => some (.ty n)
  | _ => none
theorem RelV.abs {x : V} {u : Value} (r : RelV x u) : absV u = some x := by
  cases x with
  | non => cases r; rfl
  | bl _ => cases r; rfl
  | int _ => obtain ⟨t, rfl⟩ := r; rfl
  | str _ => obtain ⟨t, rfl⟩ := r; rfl
  | byt _ => obtain ⟨t, rfl⟩ := r; rfl
  | flt _ => obtain ⟨t, rfl⟩ := r; rfl
  | ref _ => cases r; rfl
  | ty _ => cases r; rfl
theorem RelV.inj {x y : V} {u : Value} (r : RelV x u) (q : RelV y u) : x = y := Option.some.inj (r.abs.symm.trans q.abs)
theorem Vals.inj : ∀ {xs ys : List V} {us : List Value}, Vals xs us → Vals ys us → xs = ys
  | _, _, _, .nil, .nil => rfl
  | _, _, _, .cons r t, .cons r' t' => by rw [r.inj r', Vals.inj t t']
section
variable {X : Cx} {pins : List (Addr × Obj)} {σ : St} {H : Hp} {s : Shared} {a : Addr} {xs ys : List V}
theorem SqL.of {K : PySem.W.Frag} (h : H a = some (.lst xs)) : SqL K H a xs := .inl (.inl h)
theorem SqT.of {K : PySem.W.Frag} (h : H a = some (.tup xs)) : SqT K H a xs := .inl (.inl h)
theorem Inv.list (I : Inv X pins σ H s) (h : SqL X.K H a xs) : ∃ its : List Value, Vals xs its ∧ PlainL s.heap a its.toArray ∧ xs.length ≤ sizeLine := by
  rcases h with h | ⟨o, its, n, hk, hc, hd, hs, hz, r⟩
  · obtain ⟨z, its, n, r, e⟩ := h.ok I.hok
    exact ⟨its, r, ⟨_, n, e, rfl, rfl, rfl⟩, z⟩
  · refine ⟨its.toList, r, ⟨o, n, I.kIn a o hk, hc, hd, by simpa using hs⟩, ?_⟩
    have e := r.length
    simp only [Array.length_toList] at e
    omega
theorem Inv.tuple (I : Inv X pins σ H s) (h : SqT X.K H a xs) : ∃ its : List Value, Vals xs its ∧ IsTup s.heap a its.toArray ∧ xs.length ≤ sizeLine := by
  rcases h with h | ⟨o, its, n, hk, hc, hs, hz, r⟩
  · obtain ⟨z, its, r, p⟩ := h.ok I.hok
    exact ⟨its, r, p, z⟩
  · refine ⟨its.toList, r, ⟨o, I.kIn a o hk, hc, n, by simpa using hs⟩, ?_⟩
    have e := r.length
    simp only [Array.length_toList] at e
    omega
theorem Inv.list_inj (I : Inv X pins σ H s) (h : SqL X.K H a xs) (h' : SqL X.K H a ys) : xs = ys := by
  obtain ⟨its, r, ⟨o, n, e, _, _, d⟩, _⟩ := I.list h
  obtain ⟨its', r', ⟨o', n', e', _, _, d'⟩, _⟩ := I.list h'
  rw [e] at e'; cases e'
  rw [d] at d'
  injection d' with d1 _
  have : its = its' := by simpa using congrArg Array.toList d1
  subst this
  exact r.inj r'
theorem Inv.tuple_inj (I : Inv X pins σ H s) (h : SqT X.K H a xs) (h' : SqT X.K H a ys) : xs = ys := by
  obtain ⟨its, r, ⟨o, e, _, n, d⟩, _⟩ := I.tuple h
  obtain ⟨its', r', ⟨o', e', _, n', d'⟩, _⟩ := I.tuple h'
  rw [e] at e'; cases e'
  rw [d] at d'
  injection d' with d1 _
  have : its = its' := by simpa using congrArg Array.toList d1
  subst this
  exact r.inj r'
end
abbrev Cx.wish (X : Cx) (E : Value → Shared → Prop) : Cx := { X with xe := E }
abbrev Cx.nox (X : Cx) : Cx := X.wish fun _ _ => False
theorem Cx.Ok.wish {X : Cx} (ok : X.Ok) (E : Value → Shared → Prop) : (X.wish E).Ok :=
  ⟨ok.mod, ok.kind, ok.glob, ok.blt, ok.above, ok.inj, ok.has, ok.cab, ok.hd, ok.frames, ok.stk, ok.exf, ok.bs, ok.bsz, ok.noex, ok.exfs, ok.funs, ok.frf⟩
theorem Cx.Ok.unwish {X : Cx} {E : Value → Shared → Prop} (ok : (X.wish E).Ok) : X.Ok :=
  ⟨ok.mod, ok.kind, ok.glob, ok.blt, ok.above, ok.inj, ok.has, ok.cab, ok.hd, ok.frames, ok.stk, ok.exf, ok.bs, ok.bsz, ok.noex, ok.exfs, ok.funs, ok.frf⟩
section
variable {X : Cx} {pins : List (Addr × Obj)} {σ : St} {H : Hp} {s : Shared} {E : Value → Shared → Prop}
theorem Inv.wish (I : Inv X pins σ H s) (E : Value → Shared → Prop) : Inv (X.wish E) pins σ H s := ⟨I.ok.wish E, I.os, I.bare, I.base, I.loc, I.cell, I.free, I.freeC, I.pin, I.hok, I.len⟩
theorem Inv.unwish (I : Inv (X.wish E) pins σ H s) : Inv X pins σ H s := ⟨I.ok.unwish, I.os, I.bare, I.base, I.loc, I.cell, I.free, I.freeC, I.pin, I.hok, I.len⟩
theorem SP.unwish {D : Ends} {f : Flow} {s' : Shared} (h : SP (X.wish E) pins D f s') : SP X pins D f s' := by
  cases f with
  | next => obtain ⟨σ', H', I, q⟩ := h; exact ⟨σ', H', I.unwish, q⟩
  | brk => obtain ⟨σ', H', I, q⟩ := h; exact ⟨σ', H', I.unwish, q⟩
  | cont => obtain ⟨σ', H', I, q⟩ := h; exact ⟨σ', H', I.unwish, q⟩
  | ret u => obtain ⟨v, σ', H', I, r, q⟩ := h; exact ⟨v, σ', H', I.unwish, r, q⟩
theorem PT.nox {e : Expr} {t : TT} (h : PT X.nox e t) : PT X e t := fun pins s σ H Q I hw =>
  wpAny_mono (h pins s σ H Q (I.wish _) hw) (fun _ _ ⟨H', I', q⟩ => ⟨H', I'.unwish, q⟩) fun _ _ z => False.elim z
theorem PSs.nox {st : List Stmt} {t : TS} (h : PSs X.nox st t) : PSs X st t := fun pins s σ H D I hw =>
  wpAny_mono (h pins s σ H D (I.wish _) hw) (fun _ _ q => q.unwish) fun _ _ z => False.elim z
end
section
variable {X : Cx} {st : Stmt} {rest : List Stmt} {t u : TS} {e : Expr} {te : TE} {pos : Pos}
def tNext : TS := fun D σ H => D.nx σ H
def tSeq (t u : TS) : TS := fun D σ H => t { D with nx := u D } σ H
theorem pss_nil : PSs X [] tNext := fun _ _ σ H _ I h => wpAny_execs_nil ⟨σ, H, I, h⟩
theorem pss_cons (h1 : PS X st t) (h2 : PSs X rest u) : PSs X (st :: rest) (tSeq t u) := by
  intro pins s σ H D I h
  refine wpAny_execs_cons (thn (h1 pins s σ H { D with nx := u D } I h) fun f s1 q => ?_)
  cases f with
  | next =>
    obtain ⟨σ', H', I', q⟩ := q
    exact h2 pins s1 σ' H' D I' q
  | ret v => exact q
  | brk => exact q
  | cont => exact q
theorem pss_one (h1 : PS X st t) : PSs X [st] t := by
  intro pins s σ H D I h
  refine wpAny_execs_cons (thn (h1 pins s σ H D I h) fun f s1 q => ?_)
  cases f with
  | next => exact wpAny_execs_nil q
  | ret v => exact q
  | brk => exact q
  | cont => exact q
theorem Inv.quiet {pins : List (Addr × Obj)} {σ : St} {H : Hp} {s : Shared} (I : Inv X pins σ H s) : interactive X.env = false := by simp [interactive, I.ok.kind]
def tDrop (te : TE) : TS := fun D σ H => te σ H fun _ H1 => D.nx σ H1
theorem ps_expr (he : PE X e te) (hs : swapsWith e none pos.line X.env = pure false := by rfl) : PS X (.Expr e pos) (tDrop te) := by
  intro pins s σ H D I h
  exact wpAny_Expr_any (thn (he pins s σ H _ I h) fun v s1 ⟨x, H1, I1, r1, q1⟩ => ⟨σ, H1, I1, q1⟩) I.quiet hs
def tRet (te : TE) : TS := fun D σ H => te σ H D.rt
theorem ps_ret (he : PE X e te) : PS X (.Return (some e) pos) (tRet te) := by
  intro pins s σ H D I h
  exact wpAny_Return_some (thn (he pins s σ H _ I h) fun v s1 ⟨x, H1, I1, r1, q1⟩ => ⟨x, σ, H1, I1, r1, q1⟩)
def tIfS (c : TT) (t u : TS) : TS := fun D σ H => c σ H fun b H1 => if b = true then t D σ H1 else u D σ H1
theorem ps_if {c : Expr} {a b : List Stmt} {tc : TT} (hc : PT X c tc) (ha : PSs X a t) (hb : PSs X b u) : PS X (.If c a b pos) (tIfS tc t u) := by
  intro pins s σ H D I h
  refine wpAny_If (thn (hc pins s σ H _ I h) fun d s1 ⟨H1, I1, q1⟩ => ?_)
  cases d with
  | true => exact ha pins s1 σ H1 D I1 q1
  | false => exact hb pins s1 σ H1 D I1 q1
def tNever : TS := fun _ _ _ => False
theorem ps_never : PS X st tNever := fun _ _ _ _ _ _ h => h.elim
end
abbrev TG := V → St → Hp → (St → Hp → Prop) → Prop
def PG (X : Cx) (target : Expr) (t : TG) : Prop :=
  ∀ (pins : List (Addr × Obj)) (s : Shared) (σ : St) (H : Hp) (v : V) (u : Value) (Q : St → Hp → Prop), Inv X pins σ H s → RelV v u → t v σ H Q →
    wpAny (model X.prog X.w) X.A (assign target X.env u) (fun _ s' => ∃ σ' H', Inv X pins σ' H' s' ∧ Q σ' H') X.xe s
section
variable {X : Cx} {pos : Pos}
def gName (i : Nat) : TG := fun v σ H Q => Q (σ.set i (some v)) H
theorem pg_name {i : Nat} {x : Str} (hN : X.N.Nodup) (hi : X.N[i]? = some x) (hx : Loc X.env.scope x) (hf : X.fn x = true ∨ X.env.scope.names.lookup x = some .local := by first | exact .inl rfl | exact .inr rfl | assumption) : PG X (.Name x pos) (gName i) := by
  intro pins s σ H v u Q I r h
  exact wpAny_assign_Name (store_ok I hN hi hx r (fun s' I' => ⟨_, H, I', h⟩) hf)
def tAsg (te : TE) (g : TG) : TS := fun D σ H => te σ H fun x H1 => g x σ H1 D.nx
theorem ps_set {i : Nat} {x : Str} {e : Expr} {te : TE} {pos' : Pos} (hN : X.N.Nodup) (hi : X.N[i]? = some x) (hx : Loc X.env.scope x) (he : PE X e te) (hs : swapsWith e (some (.Name x pos')) pos.line X.env = pure false := by rfl) (hf : X.fn x = true ∨ X.env.scope.names.lookup x = some .local := by first | exact .inl rfl | exact .inr rfl | assumption) :
    PS X (.Assign [.Name x pos'] e pos) (tAsg te (gName i)) := by
  intro pins s σ H D I h
  refine wpAny_Assign_Name (thn (he pins s σ H _ I h) fun v s1 ⟨y, H1, I1, r1, q1⟩ => ?_) hs
  exact store_ok I1 hN hi hx r1 (fun s2 I2 => ⟨_, H1, I2, q1⟩) hf
end
section
variable {X : Cx} {pos : Pos}
end
structure It where
  go : Nat → Hp → Prop
  yld : Nat → Hp → V → Hp → Prop
  stop : Nat → Hp → Prop
def FpOk (X : Cx) (pins : List (Addr × Obj)) (H : Hp) (b : Addr) : Prop :=
  H b = none ∧ b ≠ X.env.locals ∧ b ∉ X.fs ∧ (b ∈ X.ex ∨ X.s₀.heap.objs.size ≤ b) ∧ (∀ x c, X.env.cells.lookup x = some c → c ≠ b) ∧ ∀ p ∈ X.pn ++ pins, p.1 ≠ b
theorem Inv.fpOk {X : Cx} {pins : List (Addr × Obj)} {σ : St} {H H' : Hp} {s : Shared} {b : Addr} (I : Inv X pins σ H s) (hb : s.heap.objs.size ≤ b) (hn : H' b = none) : FpOk X pins H' b := by
  refine ⟨hn, Nat.ne_of_gt (Nat.lt_of_lt_of_le I.lt hb), I.nofs hb, .inr (Nat.le_trans I.sz hb), fun x c e z => ?_, fun p hp z => ?_⟩
  · obtain ⟨v, q⟩ := I.cell x c e
    exact absurd (Nat.lt_of_lt_of_le q.lt (by rw [z]; exact hb)) (Nat.lt_irrefl _)
  · exact absurd (Nat.lt_of_lt_of_le (Heap.lt_size (I.pin p hp).1) (by rw [z]; exact hb)) (Nat.lt_irrefl _)
structure Turn (P : Program) (w : World) (K : PySem.W.Frag) (tg : Expr) (J : It) (fp : List Addr) (it : Addr) (tn : Nat → Heap → Prop) : Prop where
  mem : it ∈ fp
  obj : ∀ i h, tn i h → ∀ b ∈ fp, ∃ o, h.get? b = some o ∧ ∀ v, o.data ≠ .cell v
  keep : ∀ i h h', tn i h → (∀ b ∈ fp, ∀ o, h.get? b = some o → h'.get? b = some o) → tn i h'
  item : ∀ (X : Cx), X.prog = P → X.w = w → X.K = K → X.calm = true → ∀ (i : Nat) (pins : List (Addr × Obj)) (s : Shared) (σ : St) (H : Hp) (E : Value → Shared → Prop), Inv X pins σ H s → (∀ b ∈ fp, FpOk X pins H b) → tn i s.heap → J.go i H →
    wpAny (model P w) X.A (pyNext (.ref it)) (fun r s1 => ∃ u, r = some u ∧
      wpAny (model P w) X.A (letOwnedTupleGo tg (.ref it) u) (fun _ s2 => ∃ x H', Inv X pins σ H' s2 ∧ RelV x u ∧ J.yld i H x H' ∧ tn (i + 1) s2.heap ∧ ∀ b ∈ fp, H' b = none) E s1) E s
  done : ∀ (X : Cx), X.prog = P → X.w = w → X.K = K → X.calm = true → ∀ (i : Nat) (pins : List (Addr × Obj)) (s : Shared) (σ : St) (H : Hp) (E : Value → Shared → Prop), Inv X pins σ H s → (∀ b ∈ fp, FpOk X pins H b) → tn i s.heap → J.stop i H →
    wpAny (model P w) X.A (pyNext (.ref it)) (fun r s1 => r = none ∧ Inv X pins σ H s1) E s
  self : ∀ (A : Around) (i : Nat) (s : Shared) (Q : Value → Shared → Prop) (E : Value → Shared → Prop), tn i s.heap → Q (.ref it) s → wpAny (model P w) A (pyIter (.ref it)) Q E s
abbrev TI := St → Hp → (It → Hp → Prop) → Prop
def PIE (X : Cx) (pins : List (Addr × Obj)) (σ : St) (tg : Expr) (R : It → Hp → Prop) (itv : Value) (s2 : Shared) : Prop :=
  ∃ (it : Addr) (fp : List Addr) (tn : Nat → Heap → Prop) (J : It) (H' : Hp), itv = .ref it ∧ Inv X pins σ H' s2 ∧ Turn X.prog X.w X.K tg J fp it tn ∧ tn 0 s2.heap ∧ (∀ b ∈ fp, FpOk X pins H' b) ∧ R J H'
def PI (X : Cx) (tg iter : Expr) (wi : TI) : Prop :=
  ∀ (pins : List (Addr × Obj)) (s : Shared) (σ : St) (H : Hp) (R : It → Hp → Prop), Inv X pins σ H s → wi σ H R →
    wpAny (model X.prog X.w) X.A (eval iter X.env) (fun v s1 => wpAny (model X.prog X.w) X.A (pyIter v) (PIE X pins σ tg R) X.xe s1) X.xe s
theorem go_of {M : Model} {A : Around} {E : Value → Shared → Prop} {s : Shared} {tg : Expr} {it : Addr} {u : Value} {o : Obj} {n : String} {vs : Array Value} {Q : Unit → Shared → Prop} (ho : s.heap.get? it = some o) (hc : o.cls = .type n) (hd : o.data = .fields vs)
    (hn : ["enumerate", "zip", "dict_itemiterator", "dict_reverseitemiterator", "odict_iterator", "itertools.zip_longest", "itertools.pairwise"].contains n = false) (hQ : Q () s) : wpAny M A (letOwnedTupleGo tg (.ref it) u) Q E s := by
  unfold letOwnedTupleGo
  cases tg <;> first
    | exact wpAny_pure hQ
    | (cases u <;> first
        | exact wpAny_pure hQ
        | (refine wpAny_bind (wpAny_load ho ?_)
           rw [hc, hd]
           show wpAny M A (if (["enumerate", "zip", "dict_itemiterator", "dict_reverseitemiterator", "odict_iterator", "itertools.zip_longest", "itertools.pairwise"].contains n && vs[0]? == some (rawInt _)) = true then _ else _) Q E s
           rw [if_neg (by intro h; rw [hn, Bool.false_and] at h; cases h)]
           exact wpAny_pure hQ))
def Itl (K : PySem.W.Frag) (a : Addr) : It :=
  ⟨fun i H => ∃ xs x, SqL K H a xs ∧ xs[i]? = some x, fun i H x H' => H' = H ∧ ∀ xs, SqL K H a xs → xs[i]? = some x, fun i H => ∃ xs, SqL K H a xs ∧ xs.length ≤ i⟩
def Itr (lo : Int) (n : Nat) : It := ⟨fun i _ => i < n, fun i H x H' => H' = H ∧ x = .int (lo + i), fun i _ => n ≤ i⟩
theorem turn_list {P : Program} {w : World} {K : PySem.W.Frag} {tg : Expr} (a it : Addr) : Turn P w K tg (Itl K a) [it] it (fun i h => h.IsListIter it a i) where
  mem := by simp
  obj := fun i h st b hb => by
    have e : b = it := by simpa using hb
    subst e
    obtain ⟨o, e, c, d⟩ := st
    exact ⟨o, e, fun v z => by rw [d] at z; cases z⟩
  keep := fun i h h' st k => st.at fun o e => k it (by simp) o e
  item := by
    intro X hP hw hK hc i pins s σ H E I hf st hg
    subst hP hw hK
    obtain ⟨xs, x, hq, hx⟩ := hg
    obtain ⟨its, rv, p, hz⟩ := I.list hq
    obtain ⟨u, hu, ru⟩ := rv.get hx
    obtain ⟨f0, f1, f2, f3, f4, f5⟩ := hf it (by simp)
    refine wpAny_pyNext_list_item st p.isList (x := u) (by simpa using hu) fun h' st' sb => ?_
    have I1 : Inv X pins σ H { s with heap := h' } := I.turned (t' := s.toks) (fun b o hb e => (sb.2 b hb).trans e) f0 f1 f3 f4 f5
    obtain ⟨o, e, c, d⟩ := id st'
    exact ⟨u, rfl, go_of (s := { s with heap := h' }) e c d (by decide) ⟨x, H, I1, ru, ⟨rfl, fun ys hy => by rw [I.list_inj hy hq]; exact hx⟩, st', fun b hb => (hf b hb).1⟩⟩
  done := by
    intro X hP hw hK hc i pins s σ H E I hf st hg
    subst hP hw hK
    obtain ⟨xs, hq, hx⟩ := hg
    obtain ⟨its, rv, p, hz⟩ := I.list hq
    obtain ⟨f0, f1, f2, f3, f4, f5⟩ := hf it (by simp)
    have hl := rv.length
    exact wpAny_pyNext_list_end (I.ok.hd hc) st p.isList (by simp; omega) fun h' eb => ⟨rfl, I.turned (t' := s.toks) (fun b o hb e => eb b o hb e) f0 f1 f3 f4 f5⟩
  self := fun _ _ _ _ _ st h => wpAny_pyIter_listiter st h
theorem turn_range {P : Program} {w : World} {K : PySem.W.Frag} {tg : Expr} (it : Addr) (lo : Int) (n : Nat) : Turn P w K tg (Itr lo n) [it] it (fun i h => IsRangeIter h it (lo + (i : Nat) * 1) ((n : Int) - (i : Nat)) 1) where
  mem := by simp
  obj := fun i h st b hb => by
    have e : b = it := by simpa using hb
    subst e
    exact ⟨_, st, fun v z => by
      have z' : Data.fields _ = Data.cell v := z
      cases z'⟩
  keep := fun i h h' st k => k it (by simp) _ st
  item := by
    intro X hP hw hK hc i pins s σ H E I hf st hg
    subst hP hw hK
    obtain ⟨f0, f1, f2, f3, f4, f5⟩ := hf it (by simp)
    have W := Walks.range (prog := X.prog) (w := X.w) (I.ok.hd hc) it lo 1 n
    refine W.item i s _ _ hg st fun v h' tk hv st' kk => ?_
    obtain ⟨t, rfl⟩ := hv
    have I1 : Inv X pins σ H { s with heap := h', toks := tk } := I.turned (fun b o hb e => kk b o (by simpa using hb) e) f0 f1 f3 f4 f5
    refine ⟨_, rfl, go_of (s := { s with heap := h', toks := tk }) (n := "range_iterator") st' rfl rfl (by decide) ⟨.int (lo + i), H, I1, ⟨t, ?_⟩, ⟨rfl, rfl⟩, st', fun b hb => (hf b hb).1⟩⟩
    rw [Int.mul_one]
  done := by
    intro X hP hw hK hc i pins s σ H E I hf st hg
    subst hP hw hK
    obtain ⟨f0, f1, f2, f3, f4, f5⟩ := hf it (by simp)
    exact wpAny_pyNext_range_end (I.ok.hd hc) st (by have : n ≤ i := hg; omega) fun h' eb => ⟨rfl, I.turned (t' := s.toks) (fun b o hb e => eb b o hb e) f0 f1 f3 f4 f5⟩
  self := fun _ _ _ _ _ st h => wpAny_pyIter_rangeiter st h
end L2
namespace L2
open PySem PySem.Spec PyProof.Rows
section
variable {X : Cx} {tg : Expr}
def iList (K : PySem.W.Frag) (tl : TE) : TI := fun σ H R => tl σ H fun x H1 => ∃ a, x = .ref a ∧ (∃ xs, SqL K H1 a xs) ∧ R (Itl K a) H1
theorem pi_list {l : Expr} {tl : TE} (hl : PE X l tl) : PI X tg l (iList X.K tl) := by
  intro pins s σ H R I h
  refine thn (hl pins s σ H _ I h) fun v s1 ⟨x, H1, I1, r1, q1⟩ => ?_
  obtain ⟨a, e, ⟨xs, hq⟩, q⟩ := q1
  subst e
  cases r1
  obtain ⟨its, rv, p, hz⟩ := I1.list hq
  refine wpAny_pyIter_list p.isList ?_
  refine ⟨s1.heap.objs.size, [s1.heap.objs.size], _, _, H1, rfl, I1.kept (t' := s1.toks) fun b o e => Heap.get?_push_of_some _ e, turn_list a _, ⟨_, Heap.get?_push_size _ rfl, rfl, rfl⟩, fun b hb => ?_, q⟩
  have e : b = s1.heap.objs.size := by simpa using hb
  subst e
  exact I1.fpOk (Nat.le_refl _) (I1.hok.fresh (Nat.le_refl _))
theorem range_it {pins : List (Addr × Obj)} {σ : St} {H : Hp} {s : Shared} {R : It → Hp → Prop} {E : Value → Shared → Prop} {lo hi : Int} {t u v : Tok} {tk : Nat} (I : Inv X pins σ H s) (h1 : -(2 ^ 62) ≤ lo) (h2 : lo < 2 ^ 62) (h3 : -(2 ^ 62) ≤ hi) (h4 : hi < 2 ^ 62)
    (q : R (Itr lo (hi - lo).toNat) H) : wpAny (model X.prog X.w) X.A (pyIter (.ref s.heap.objs.size)) (PIE X pins σ tg R) E { s with heap := s.heap.push { cls := .type "range", data := .fields #[.int lo t, .int hi u, .int 1 v] }, toks := tk } := by
  refine wpAny_pyIter_range (IsRange.new ..) (small_one h1 h2 h3 h4) ?_
  have I1 : Inv X pins σ H { s with heap := s.heap.push { cls := .type "range", data := .fields #[.int lo t, .int hi u, .int 1 v] }, toks := tk } := I.kept fun b o e => Heap.get?_push_of_some _ e
  refine ⟨(s.heap.push { cls := .type "range", data := .fields #[.int lo t, .int hi u, .int 1 v] }).objs.size, [(s.heap.push { cls := .type "range", data := .fields #[.int lo t, .int hi u, .int 1 v] }).objs.size], _, _, H, rfl,
    I1.kept (t' := tk) fun b o e => Heap.get?_push_of_some _ e, turn_range _ lo (hi - lo).toNat, ?_, fun b hb => ?_, q⟩
  · have e1 : lo + ((0 : Nat) : Int) * 1 = lo := by simp
    have e2 : (((hi - lo).toNat : Nat) : Int) - ((0 : Nat) : Int) = Builtin.Range.rangeSize lo hi 1 := by rw [rangeSize_one]; split <;> omega
    show IsRangeIter _ _ (lo + ((0 : Nat) : Int) * 1) ((((hi - lo).toNat : Nat) : Int) - ((0 : Nat) : Int)) 1
    rw [e1, e2]
    exact Heap.get?_push_size _ rfl
  · have e : b = (s.heap.push { cls := .type "range", data := .fields #[.int lo t, .int hi u, .int 1 v] }).objs.size := by simpa using hb
    subst e
    exact I1.fpOk (Nat.le_refl _) (I1.hok.fresh (Nat.le_refl _))
def iRng1 (ta : TA) : TI := fun σ H R => ta σ H fun vs H1 => ∃ j : Int, vs = [.int j] ∧ -(2 ^ 62) ≤ j ∧ j < 2 ^ 62 ∧ R (Itr 0 j.toNat) H1
theorem pi_range1 {a : Expr} {ta : TA} {p pos : Pos} (hg : Gl X "range") (hm : X.mg "range" = none) (ha : PA X [a] ta) (hs : starEach [a] X.env = [(false, eval a X.env)] := by rfl) : PI X tg (.Call (.Name "range" p) [a] [] pos) (iRng1 ta) := by
  intro pins s σ H R I h
  refine Call_ (ld_blt I hg hm boot_range (PyProof.Rows.callWith_type1 (thn (ha pos pins s σ H _ I h) fun us s1 ⟨vs, H1, I1, r1, q1⟩ => ?_) hs rfl))
  obtain ⟨j, e, q1, q2, q⟩ := q1
  subst e
  cases r1 with
  | cons r rr =>
    cases rr
    obtain ⟨t, rfl⟩ := r
    exact call_range_1 (range_it I1 (by omega) (by omega) q1 q2 (by simpa using q))
def tFor (wi : TI) (g : TG) (tb : TS) : TS := fun D σ H => wi σ H fun J H1 => ∃ W : Nat → Nat → St → Hp → Prop, (∃ m, W 0 m σ H1) ∧ ∀ i m σ H, W i m σ H →
  (J.stop i H ∧ D.nx σ H) ∨ (J.go i H ∧ ∃ N : St → Hp → Prop, (∀ σ' H', N σ' H' → ∃ m', m' < m ∧ W (i + 1) m' σ' H') ∧ ∀ x H', J.yld i H x H' → g x σ H' fun σ2 H2 => tb { D with nx := N, ct := N, bk := D.nx } σ2 H2)
def pinsAt (fp : List Addr) (h : Heap) : List (Addr × Obj) := fp.filterMap fun b => (h.get? b).map fun o => (b, o)
theorem mem_pinsAt {fp : List Addr} {h : Heap} {b : Addr} {o : Obj} (hb : b ∈ fp) (e : h.get? b = some o) : (b, o) ∈ pinsAt fp h := List.mem_filterMap.mpr ⟨b, hb, by rw [e]; rfl⟩
theorem of_pinsAt {fp : List Addr} {h : Heap} {p : Addr × Obj} (hp : p ∈ pinsAt fp h) : p.1 ∈ fp ∧ h.get? p.1 = some p.2 := by
  obtain ⟨b, hb, e⟩ := List.mem_filterMap.mp hp
  cases q : h.get? b with
  | none => rw [q] at e; cases e
  | some o =>
    rw [q] at e
    have e' : (b, o) = p := Option.some.inj e
    subst e'
    exact ⟨hb, q⟩
theorem Inv.pinned {pins : List (Addr × Obj)} {σ : St} {H : Hp} {s : Shared} {fp : List Addr} (I : Inv X pins σ H s) (hf : ∀ b ∈ fp, FpOk X pins H b) (ho : ∀ b ∈ fp, ∃ o, s.heap.get? b = some o ∧ ∀ v, o.data ≠ .cell v) : Inv X (pins ++ pinsAt fp s.heap) σ H s :=
  I.pins_of fun p hp => (List.mem_append.mp hp).elim (fun z => I.pin p (List.mem_append_right _ z)) fun z => by
    obtain ⟨hb, e⟩ := of_pinsAt z
    obtain ⟨f0, f1, f2, _⟩ := hf p.1 hb
    obtain ⟨o, e', d⟩ := ho p.1 hb
    rw [e] at e'; cases e'
    exact ⟨e, f0, f1, f2, d⟩
theorem Inv.unpinned {pins pl : List (Addr × Obj)} {σ : St} {H : Hp} {s : Shared} (I : Inv X (pins ++ pl) σ H s) : Inv X pins σ H s := I.pins_of fun p hp => I.pin p (List.mem_append_right _ (List.mem_append_left _ hp))
theorem ps_for {iter : Expr} {body : List Stmt} {wi : TI} {g : TG} {tb : TS} {pos : Pos} (hp : PassesOwn (model X.prog X.w) X.A X.env X.xe) (hc : X.calm = true) (hi : PI X tg iter wi) (hg : PG X tg g) (hb : PSs X body tb)
    (hs : ∀ x, foldedSetIterable iter X.env x = pure x := by intro _; rfl) : PS X (.For tg iter body [] pos) (tFor wi g tb) := by
  intro pins s σ H D I h
  refine wpAny_For (thn (hi pins s σ H _ I h) fun v s1 h1 => thn h1 fun itv s2 h2 => ?_) hs
  obtain ⟨it, fp, tn, J, H2, e, I2, T, st2, f2, W, ⟨m0, w0⟩, turn⟩ := h2
  subst e
  have stat : ∀ {H' : Hp}, (∀ b ∈ fp, H' b = none) → ∀ b ∈ fp, FpOk X pins H' b := fun hn b hb => ⟨hn b hb, (f2 b hb).2⟩
  refine codeAny_forLoop_any (fun n s' => ∃ i σ' H', Inv X pins σ' H' s' ∧ tn i s'.heap ∧ (∀ b ∈ fp, H' b = none) ∧ W i n σ' H') ?_ m0 ⟨0, σ, H2, I2, st2, fun b hb => (f2 b hb).1, w0⟩
  rintro n s3 ⟨i, σ3, H3, I3, st3, fr3, w3⟩
  rcases turn i n σ3 H3 w3 with ⟨stop, qn⟩ | ⟨go, N, hN, step⟩
  · refine wpAny_passesOwn hp (thn (T.done X rfl rfl rfl hc i pins s3 σ3 H3 X.xe I3 (stat fr3) st3 stop) fun r s4 ⟨hr, I4⟩ => ?_)
    subst hr
    exact wpAny_execs_nil ⟨σ3, H3, I4, qn⟩
  · refine wpAny_passesOwn hp (thn (T.item X rfl rfl rfl hc i pins s3 σ3 H3 X.xe I3 (stat fr3) st3 go) fun r s4 ⟨u, hr, h4⟩ => ?_)
    subst hr
    refine wpAny_passesOwn hp (thn h4 fun _ s5 ⟨x, H5, I5, r5, y5, st5, fr5⟩ => ?_)
    have I5' := I5.pinned (stat fr5) (T.obj _ _ st5)
    refine wpAny_passesOwn hp (thn (hg _ s5 σ3 H5 x u _ I5' r5 (step x H5 y5)) fun _ s6 ⟨σ6, H6, I6, q6⟩ => ?_)
    refine wpAny_passesOwn hp (thn (hb _ s6 σ6 H6 _ I6 q6) fun f s7 q7 => ?_)
    have again : ∀ {σ7 : St} {H7 : Hp}, Inv X (pins ++ pinsAt fp s5.heap) σ7 H7 s7 → N σ7 H7 → ∃ m, m < n ∧ ∃ i σ' H', Inv X pins σ' H' s7 ∧ tn i s7.heap ∧ (∀ b ∈ fp, H' b = none) ∧ W i m σ' H' := fun {σ7 H7} I7 n7 => by
      obtain ⟨m', hm, w7⟩ := hN σ7 H7 n7
      refine ⟨m', hm, i + 1, σ7, H7, I7.unpinned, T.keep _ _ _ st5 fun b hb o e => (I7.pin (b, o) (List.mem_append_right _ (List.mem_append_right _ (mem_pinsAt hb e)))).1, fun b hb => ?_, w7⟩
      obtain ⟨o, e, d⟩ := T.obj _ _ st5 b hb
      exact (I7.pin (b, o) (List.mem_append_right _ (List.mem_append_right _ (mem_pinsAt hb e)))).2.1
    cases f with
    | next => obtain ⟨σ7, H7, I7, n7⟩ := q7; exact again I7 n7
    | cont => obtain ⟨σ7, H7, I7, n7⟩ := q7; exact again I7 n7
    | brk => obtain ⟨σ7, H7, I7, q7⟩ := q7; exact ⟨σ7, H7, I7.unpinned, q7⟩
    | ret v => obtain ⟨x7, σ7, H7, I7, r7, q7⟩ := q7; exact ⟨x7, σ7, H7, I7.unpinned, r7, q7⟩
end
end L2
namespace L2
open PySem PySem.Spec PyProof.Rows
abbrev R2 := V → V → Hp → VK → Prop
def OpR (X : Cx) (f : Value → Value → Sem Value) (r : R2) : Prop :=
  ∀ (pins : List (Addr × Obj)) (s : Shared) (σ : St) (H : Hp) (x y : V) (v u : Value) (Q : VK), Inv X pins σ H s → RelV x v → RelV y u → r x y H Q →
    wpAny (model X.prog X.w) X.A (f v u) (EP X pins σ Q) X.xe s
def UnR (X : Cx) (f : Value → Sem Value) (r : V → Hp → VK → Prop) : Prop :=
  ∀ (pins : List (Addr × Obj)) (s : Shared) (σ : St) (H : Hp) (x : V) (v : Value) (Q : VK), Inv X pins σ H s → RelV x v → r x H Q →
    wpAny (model X.prog X.w) X.A (f v) (EP X pins σ Q) X.xe s
def CallR (X : Cx) (f : Value) (r : List V → Hp → VK → Prop) : Prop :=
  ∀ (pins : List (Addr × Obj)) (s : Shared) (σ : St) (H : Hp) (xs : List V) (us : List Value) (Q : VK), Inv X pins σ H s → Vals xs us → r xs H Q →
    wpAny (model X.prog X.w) X.A (call f us) (EP X pins σ Q) X.xe s
def tOp (r : R2) (ta tb : TE) : TE := fun σ H Q => ta σ H fun x H1 => tb σ H1 fun y H2 => r x y H2 Q
def tUn (r : V → Hp → VK → Prop) (ta : TE) : TE := fun σ H Q => ta σ H fun x H1 => r x H1 Q
def rI (C : Int → Int → Prop) (g : Int → Int → V) : R2 := fun x y H Q => ∃ i j, x = .int i ∧ y = .int j ∧ C i j ∧ Q (g i j) H
def rI0 (g : Int → Int → V) : R2 := fun x y H Q => ∃ i j, x = .int i ∧ y = .int j ∧ Q (g i j) H
def rU (g : Int → V) : V → Hp → VK → Prop := fun x H Q => ∃ i, x = .int i ∧ Q (g i) H
section
variable {X : Cx} {a b c : Expr} {ta tb tc : TE} {pos : Pos}
theorem binT (ha : PE X a ta) (hb : PE X b tb) {pins : List (Addr × Obj)} {s : Shared} {σ : St} {H : Hp} {R : V → V → Hp → Prop} (I : Inv X pins σ H s)
    (h : ta σ H fun x H1 => tb σ H1 fun y H2 => R x y H2) {Q : Value → Shared → Prop} {f : Value → Value → Sem Value}
    (hf : ∀ v u s2 x y H2, Inv X pins σ H2 s2 → RelV x v → RelV y u → R x y H2 → wpAny (model X.prog X.w) X.A (f v u) Q X.xe s2) :
    wpAny (model X.prog X.w) X.A (eval a X.env) (fun v s₁ => wpAny (model X.prog X.w) X.A (eval b X.env) (fun u s₂ => wpAny (model X.prog X.w) X.A (f v u) Q X.xe s₂) X.xe s₁) X.xe s := by
  refine thn (ha pins s σ H _ I h) fun v s1 ⟨x, H1, I1, r1, q1⟩ => ?_
  refine thn (hb pins s1 σ H1 _ I1 q1) fun u s2 ⟨y, H2, I2, r2, q2⟩ => ?_
  exact hf v u s2 x y H2 I2 r1 r2 q2
theorem pe_op {op : Operator} {r : R2} (ho : OpR X (binaryOp op) r) (ha : PE X a ta) (hb : PE X b tb) : PE X (.BinOp a op b pos) (tOp r ta tb) := by
  intro pins s σ H Q I h
  exact wpAny_BinOp (binT ha hb I h fun v u s2 x y H2 I2 rx ry q => ho pins s2 σ H2 x y v u Q I2 rx ry q)
theorem pe_un {op : UnaryOp} {r : V → Hp → VK → Prop} (ho : UnR X (unaryOp op) r) (ha : PE X a ta) : PE X (.UnaryOp op a pos) (tUn r ta) := by
  intro pins s σ H Q I h
  exact UnaryOp_ (thn (ha pins s σ H _ I h) fun v s1 ⟨x, H1, I1, r1, q1⟩ => ho pins s1 σ H1 x v Q I1 r1 q1)
theorem opI {f : Value → Value → Sem Value} {C : Int → Int → Prop} {g : Int → Int → Int}
    (rule : ∀ (i j : Int) (t u : Tok) (s : Shared) (Q : Value → Shared → Prop) (E : Value → Shared → Prop), C i j → Q (.int (g i j) s.toks) { s with toks := s.toks + 1 } → wpAny (model X.prog X.w) X.A (f (.int i t) (.int j u)) Q E s) :
    OpR X f (rI C fun i j => .int (g i j)) := by
  intro pins s σ H x y v u Q I rx ry h
  obtain ⟨i, j, rfl, rfl, hc, q⟩ := h
  obtain ⟨t, rfl⟩ := rx
  obtain ⟨t', rfl⟩ := ry
  exact rule i j t t' s _ _ hc ⟨.int (g i j), H, I.tok _, ⟨_, rfl⟩, q⟩
theorem opI0 {f : Value → Value → Sem Value} {g : Int → Int → Int}
    (rule : ∀ (i j : Int) (t u : Tok) (s : Shared) (Q : Value → Shared → Prop) (E : Value → Shared → Prop), Q (.int (g i j) s.toks) { s with toks := s.toks + 1 } → wpAny (model X.prog X.w) X.A (f (.int i t) (.int j u)) Q E s) :
    OpR X f (rI0 fun i j => .int (g i j)) := by
  intro pins s σ H x y v u Q I rx ry h
  obtain ⟨i, j, rfl, rfl, q⟩ := h
  obtain ⟨t, rfl⟩ := rx
  obtain ⟨t', rfl⟩ := ry
  exact rule i j t t' s _ _ ⟨.int (g i j), H, I.tok _, ⟨_, rfl⟩, q⟩
theorem opB0 {f : Value → Value → Sem Value} {g : Int → Int → Bool}
    (rule : ∀ (i j : Int) (t u : Tok) (s : Shared) (Q : Value → Shared → Prop) (E : Value → Shared → Prop), Q (.bool (g i j)) s → wpAny (model X.prog X.w) X.A (f (.int i t) (.int j u)) Q E s) :
    OpR X f (rI0 fun i j => .bl (g i j)) := by
  intro pins s σ H x y v u Q I rx ry h
  obtain ⟨i, j, rfl, rfl, q⟩ := h
  obtain ⟨t, rfl⟩ := rx
  obtain ⟨t', rfl⟩ := ry
  exact rule i j t t' s _ _ ⟨.bl (g i j), H, I, rfl, q⟩
def CPow (i j : Int) : Prop := 0 ≤ j ∧ j ≤ 1000000 ∧ i.natAbs < 2 ^ 64
def CMul (i j : Int) : Prop := (-(2 ^ 64) < i ∧ i < 2 ^ 64) ∨ (-(2 ^ 64) < j ∧ j < 2 ^ 64)
theorem CMul.ok {i j : Int} (h : CMul i j) : IntMulOk i j := by
  rcases h with ⟨h1, h2⟩ | ⟨h1, h2⟩
  · exact .of_left (intBits_le_64 h1 h2)
  · exact .of_right (intBits_le_64 h1 h2)
theorem op_add : OpR X (binaryOp .Add) (rI0 fun i j => .int (i + j)) := opI0 fun _ _ _ _ _ _ _ q => add_int q
theorem op_sub : OpR X (binaryOp .Sub) (rI0 fun i j => .int (i - j)) := opI0 fun _ _ _ _ _ _ _ q => sub_int q
theorem op_mul : OpR X (binaryOp .Mult) (rI CMul fun i j => .int (i * j)) := opI fun _ _ _ _ _ _ _ hc q => mul_int q hc.ok
theorem op_mod : OpR X (binaryOp .Mod) (rI (fun _ j => 0 < j) fun i j => .int (i % j)) := opI fun i j _ _ _ _ _ hc q => by
  have h1 : (0 : Int) < j := hc
  exact mod_int' (by omega) (by rw [Int.fmod_eq_emod_of_nonneg i (by omega)]; exact q)
theorem op_pow : OpR X (binaryOp .Pow) (rI CPow fun i j => .int (i ^ j.toNat)) := opI fun _ _ _ _ _ _ _ hc q => pow_int_small hc.1 hc.2.1 hc.2.2 q
theorem unI {f : Value → Sem Value} {g : Int → Int}
    (rule : ∀ (i : Int) (t : Tok) (s : Shared) (Q : Value → Shared → Prop) (E : Value → Shared → Prop), Q (.int (g i) s.toks) { s with toks := s.toks + 1 } → wpAny (model X.prog X.w) X.A (f (.int i t)) Q E s) :
    UnR X f (rU fun i => .int (g i)) := by
  intro pins s σ H x v Q I rx h
  obtain ⟨i, rfl, q⟩ := h
  obtain ⟨t, rfl⟩ := rx
  exact rule i t s _ _ ⟨.int (g i), H, I.tok _, ⟨_, rfl⟩, q⟩
theorem un_neg : UnR X (unaryOp .USub) (rU fun i => .int (-i)) := unI fun _ _ _ _ _ q => neg_int q
end
section
variable {X : Cx} {a b c : Expr} {ta tb tc : TE} {pos : Pos}
theorem fin_bl {pins : List (Addr × Obj)} {σ : St} {H : Hp} {s : Shared} {Q : VK} {k k' : Bool} (I : Inv X pins σ H s) (q : Q (.bl k) H) (e : k = k') : EP X pins σ Q (.bool k') s := by
  subst e
  exact ⟨.bl k, H, I, rfl, q⟩
theorem op_lt : OpR X (compareOp .Lt) (rI0 fun i j => .bl (decide (i < j))) := opB0 fun _ _ _ _ _ _ _ q => lt_int q
theorem op_le : OpR X (compareOp .LtE) (rI0 fun i j => .bl (decide (i ≤ j))) := opB0 fun _ _ _ _ _ _ _ q => le_int q
theorem op_gt : OpR X (compareOp .Gt) (rI0 fun i j => .bl (decide (j < i))) := opB0 fun _ _ _ _ _ _ _ q => gt_int q
theorem op_in_str : OpR X (compareOp .In) (fun x y H Q => ∃ i j, x = .str i ∧ y = .str j ∧ Q (.bl (!(Builtin.Str.occurrences j i 0 j.length 1).isEmpty)) H) := by
  intro pins s σ H x y v u Q I rx ry h
  obtain ⟨i, j, rfl, rfl, q⟩ := h
  obtain ⟨t, rfl⟩ := rx
  obtain ⟨t', rfl⟩ := ry
  exact in_str (fin_bl I q rfl)
theorem op_isN : OpR X (compareOp .Is) (fun x y H Q => y = .non ∧ Q (.bl (decide (x = .non))) H) := by
  intro pins s σ H x y v u Q I rx ry h
  obtain ⟨rfl, q⟩ := h
  cases ry
  refine is_none_gen (fin_bl I q ?_)
  cases x <;> first
    | (cases rx; rfl)
    | (obtain ⟨t, rfl⟩ := rx; rfl)
theorem nomark (b : Expr) {op : CmpOp} (h : op ≠ .In := by decide) (h2 : op ≠ .NotIn := by decide) : behindInMarks op b = false := by
  have e1 : (op == CmpOp.In) = false := by cases op <;> first | rfl | exact absurd rfl h
  have e2 : (op == CmpOp.NotIn) = false := by cases op <;> first | rfl | exact absurd rfl h2
  cases b <;> simp [behindInMarks, e1, e2]
theorem pe_cmpR {op : CmpOp} {r : R2} (ho : OpR X (compareOp op) r) (ha : PE X a ta) (hb : PE X b tb) (hm : behindInMarks op b = false) : PE X (.Compare a [op] [b] pos) (tOp r ta tb) := by
  intro pins s σ H Q I h
  exact wpAny_Compare1 (binT ha hb I h fun v u s2 x y H2 I2 rx ry q => ho pins s2 σ H2 x y v u Q I2 rx ry q) hm
def tTest (t : TE) : TT := fun σ H Q => t σ H fun x H' => ∃ k, x = .bl k ∧ Q k H'
theorem pt_cmpR {op : CmpOp} {r : R2} (ho : OpR X (compareOp op) r) (ha : PE X a ta) (hb : PE X b tb) (hm : behindInMarks op b = false) : PT X (.Compare a [op] [b] pos) (tTest (tOp r ta tb)) := by
  intro pins s σ H Q I h
  refine wpAny_isTrue_Compare1 (thn (ha pins s σ H _ I h) fun v s1 ⟨x, H1, I1, r1, q1⟩ => thn (hb pins s1 σ H1 _ I1 q1) fun u s2 ⟨y, H2, I2, r2, q2⟩ =>
    thn (ho pins s2 σ H2 x y v u _ I2 r1 r2 q2) fun c s3 ⟨z, H3, I3, r3, k, e, q3⟩ => ?_) hm
  subst e
  cases r3
  exact wpAny_truthy_bool ⟨H3, I3, q3⟩
def tChain (r r' : R2) (ta tb tc : TE) : TE := fun σ H Q => ta σ H fun x H1 => tb σ H1 fun y H2 => r x y H2 fun z H3 => ∃ k, z = .bl k ∧
  (if k = true then tc σ H3 fun w' H4 => r' y w' H4 Q else Q (.bl false) H3)
theorem pe_chain {op op' : CmpOp} {r r' : R2} (ho : OpR X (compareOp op) r) (ho' : OpR X (compareOp op') r') (ha : PE X a ta) (hb : PE X b tb) (hc : PE X c tc)
    (hm : lastMarks [op, op'] [b, c] = false := by with_unfolding_all rfl) : PE X (.Compare a [op, op'] [b, c] pos) (tChain r r' ta tb tc) := by
  intro pins s σ H Q I h
  refine Compare_chain (thn (ha pins s σ H _ I h) fun v s1 ⟨x, H1, I1, r1, q1⟩ => chain_link (thn (hb pins s1 σ H1 _ I1 q1) fun u s2 ⟨y, H2, I2, r2, q2⟩ =>
    thn (ho pins s2 σ H2 x y v u _ I2 r1 r2 q2) fun d s3 ⟨z, H3, I3, r3, k, e, q3⟩ => ?_)) hm
  subst e
  cases r3
  refine wpAny_truthy_bool ?_
  cases k with
  | false => exact ite_ff ⟨.bl false, H3, I3, rfl, q3⟩
  | true => exact ite_tt (chain_last (thn (hc pins s3 σ H3 _ I3 q3) fun w' s4 ⟨z', H4, I4, r4, q4⟩ => ho' pins s4 σ H4 y z' u w' Q I4 r2 r4 q4))
theorem line63 : (sizeLine : Nat) < 2 ^ 63 := by rw [sizeLine_eq]; decide
theorem op_add_str : OpR X (binaryOp .Add) (fun x y H Q => ∃ i j, x = .str i ∧ y = .str j ∧ i.length + j.length ≤ sizeLine ∧ Q (.str (i ++ j)) H) := by
  intro pins s σ H x y v u Q I rx ry h
  obtain ⟨i, j, rfl, rfl, hz, q⟩ := h
  obtain ⟨t, rfl⟩ := rx
  obtain ⟨t', rfl⟩ := ry
  exact add_str (fun t' tk => ⟨.str (i ++ j), H, I.tok _, ⟨_, rfl⟩, q⟩) hz
theorem vals1 {x : V} {us : List Value} (r : Vals [x] us) : ∃ u, us = [u] ∧ RelV x u := by
  cases r with
  | cons r1 r2 => cases r2; exact ⟨_, rfl, r1⟩
theorem vals2 {x y : V} {us : List Value} (r : Vals [x, y] us) : ∃ u w', us = [u, w'] ∧ RelV x u ∧ RelV y w' := by
  cases r with
  | cons r1 r2 =>
    cases r2 with
    | cons r3 r4 => cases r4; exact ⟨_, _, rfl, r1, r3⟩
theorem call_int1 : CallR X (.type "int") (fun xs H Q => (∃ i, xs = [.int i] ∧ Q (.int i) H) ∨ ∃ k, xs = [.bl k] ∧ Q (.int (if k then 1 else 0)) H) := by
  intro pins s σ H xs us Q I r h
  rcases h with ⟨i, rfl, q⟩ | ⟨k, rfl, q⟩
  · obtain ⟨u, rfl, t, rfl⟩ := vals1 r
    exact call_int_int ⟨.int i, H, I, ⟨_, rfl⟩, q⟩
  · obtain ⟨u, rfl, r1⟩ := vals1 r
    cases r1
    exact call_int_bool ⟨.int (if k then 1 else 0), H, I.tok _, ⟨_, rfl⟩, q⟩
theorem call_str_int : CallR X (.type "str") (fun xs H Q => ∃ i, xs = [.int i] ∧ i.natAbs.log2 < 1920 ∧ Q (.str (toString i)) H) := by
  intro pins s σ H xs us Q I r h
  obtain ⟨i, rfl, hz, q⟩ := h
  obtain ⟨u, rfl, t, rfl⟩ := vals1 r
  exact PySem.P.str_of_int hz ⟨.str _, H, I.tok _, ⟨_, rfl⟩, q⟩
end
end L2
namespace L2
open PySem PySem.Spec PyProof.Rows
structure ObjM (h : Heap) (x dx C : Addr) (mA : Str → Option Value) : Prop where
  obj : h.get? x = some (PySem.W.instObj C dx)
  ns : h.Ns1 dx mA
  ne : dx ≠ x
theorem lookIn_ns {h : Heap} {dx : Addr} {mA : Str → Option Value} (n : h.Ns1 dx mA) : ∃ od, h.get? dx = some od ∧ ∀ name, PySem.W.lookIn name od = some (mA name) := by
  obtain ⟨o, es, ep, ho, hd, hk, _, hm⟩ := n
  refine ⟨o, ho, fun name => ?_⟩
  have e := hm name
  unfold nsFind findBy at e
  rw [← Array.find?_toList] at e
  unfold PySem.W.lookIn
  rw [hd]
  dsimp only
  split
  · rename_i y q
    rw [q] at e
    exact congrArg some e
  · rename_i q
    rw [q] at e
    have a : es.toList.any (·.refKey) = false := by
      rw [List.any_eq_false]
      intro y hy
      obtain ⟨z, t, hkey⟩ := hk y (Array.mem_toList_iff.mp hy)
      simp [DictEntry.refKey, hkey]
    have a' : ¬ es.toList.any (·.refKey) = true := by rw [a]; exact Bool.false_ne_true
    rw [if_neg a']
    exact congrArg some e
theorem ObjM.look {h : Heap} {x dx C : Addr} {mA : Str → Option Value} (I : ObjM h x dx C mA) : ∃ od, PySem.W.InstAt h x (PySem.W.instObj C dx) C (some od) ∧ ∀ name, PySem.W.lookIn name od = some (mA name) :=
  let ⟨od, ho, hl⟩ := lookIn_ns I.ns
  ⟨od, ⟨I.obj, rfl, rfl, ho⟩, hl⟩
section
variable {prog : Program} {w : World} {A : Around} {E : Value → Shared → Prop} {s : Shared} {K : PySem.W.Frag} {x dx C f : Addr} {mA : Str → Option Value} {name : Str} {v : Value}
end
section
variable {P : Program} {w : World} {H H' : Hp} {h h' : Heap} {a C dx : Addr} {fs fs' : List (Str × V)}
theorem ins_get (hok : HOk P w H h) (e : H a = some (.ins C dx fs)) : ∃ mA, ObjM h a dx C mA ∧ (∀ f, RelO (fs.lookup f) (mA f)) ∧ PySem.Within mA (fs.map (·.1)) ∧ fs.length ≤ 1000 ∧ H dx = some (.own a) := by
  obtain ⟨d, z, ne, ob, mA, n, r, q⟩ := (show ObjOk P w H h a (.ins C dx fs) from hok a _ e)
  exact ⟨mA, ⟨ob, n, ne⟩, r, q, z, d⟩
end
structure Cls (K : PySem.W.Frag) (C : Addr) : Prop where
  pg : PySem.W.plainGet K C Str.empty = true
  hd : PySem.W.hasDictIn K C = true
  po : PySem.W.plainOver K C = true
  sa : PySem.W.findIn K (.ref C) "__setattr__" = some (some (.builtin "object.__setattr__"))
theorem Cls.get {K : PySem.W.Frag} {C : Addr} (c : Cls K C) (f : Str) : PySem.W.plainGet K C f = true := c.pg
structure Con (K : PySem.W.Frag) (C : Addr) (f : Str) (v : V) (u : Value) : Prop where
  at_ : PySem.W.findIn K (.ref C) f = some (some u)
  rel : RelV v u
  get : PySem.W.specialIn K u "__get__" = some none
  cp : PySem.W.copiedNames.contains f = false
structure Meth (K : PySem.W.Frag) (C : Addr) (m : Str) (f : Addr) : Prop where
  at_ : PySem.W.findIn K (.ref C) m = some (some (.ref f))
  fn : PySem.W.isFn K (.ref f) = true
  kp : PySem.W.keepIn K (.ref f) = true
section
variable {X : Cx} {pins : List (Addr × Obj)} {σ : St} {H : Hp} {s : Shared} {a C dx : Addr} {fs : List (Str × V)} {f : Str} {v : V} {A : Around} {E : Value → Shared → Prop}
end
section
variable {X : Cx} {o e value : Expr} {f : Str} {pos pos' tpos : Pos} {ta tv : TE}
end
section
variable {X : Cx} {pins : List (Addr × Obj)} {σ : St} {H : Hp} {s : Shared} {A : Around} {E : Value → Shared → Prop} {Q : Value → Shared → Prop} {c : Value} {b : Bool}
inductive TyOf (K : PySem.W.Frag) (H : Hp) : V → Value → Prop where
  | non : TyOf K H .non (.type "NoneType")
  | bl (x : Bool) : TyOf K H (.bl x) (.type "bool")
  | int (i : Int) : TyOf K H (.int i) (.type "int")
  | str (x : Str) : TyOf K H (.str x) (.type "str")
  | flt (x : UInt64) : TyOf K H (.flt x) (.type "float")
  | lst {a : Addr} {xs : List V} (e : H a = some (.lst xs)) : TyOf K H (.ref a) (.type "list")
  | frz {a : Addr} {o : Obj} {xs : List V} (e : H a = some (.frz o (.lst xs))) : TyOf K H (.ref a) (.type "list")
  | tup {a : Addr} {xs : List V} (e : H a = some (.tup xs)) : TyOf K H (.ref a) (.type "tuple")
  | dK {a : Addr} {kvs : List (Key × V)} (e : H a = some (.dK kvs)) : TyOf K H (.ref a) (.type "dict")
  | dT {a : Addr} {kvs : List (List Key × V)} (e : H a = some (.dT kvs)) : TyOf K H (.ref a) (.type "dict")
  | ins {a C dx : Addr} {fs : List (Str × V)} (e : H a = some (.ins C dx fs)) (cl : Cls K C) (ha : PySem.W.findIn K (.ref C) "__class__" = some (some (.builtin "object.__class__")))
      (hn : PySem.W.specialIn K (.builtin "object.__class__") "__get__" = some (some (.builtin "getset_descriptor.__get__"))) (htk : PySem.W.takesIn K (.builtin "object.__class__") = some true)
      (hm : PySem.W.mroIn K C (.type "object") = some true) : TyOf K H (.ref a) (.ref C)
theorem isinst_ok {x : V} {u t : Value} (I : Inv X pins σ H s) (rx : RelV x u) (ty : TyOf X.K H x t) (e : PySem.W.kitOne X.K t c = some b) (h : ∀ tk, Q (.bool b) { s with toks := tk }) :
    wpAny (model X.prog X.w) A (call (.builtin "isinstance") [u, c]) Q E s := by
  cases ty with
  | non => cases (show u = Value.none from rx); exact PySem.W.kia_one PySem.W.kitx_none I.kIn True.intro e (fun z => nomatch z) h
  | bl y => cases (show u = Value.bool y from rx); exact PySem.W.kia_one PySem.W.kitx_bool I.kIn True.intro e (fun z => nomatch z) h
  | int i => obtain ⟨t, q⟩ := (show ∃ t, u = Value.int i t from rx); cases q; exact PySem.W.kia_one PySem.W.kitx_int I.kIn True.intro e (fun z => nomatch z) h
  | str y => obtain ⟨t, q⟩ := (show ∃ t, u = Value.str y t from rx); cases q; exact PySem.W.kia_one PySem.W.kitx_str I.kIn True.intro e (fun z => nomatch z) h
  | flt y => obtain ⟨t, q⟩ := (show ∃ t, u = Value.float y t from rx); cases q; exact PySem.W.kia_one PySem.W.kitx_float I.kIn True.intro e (fun z => nomatch z) h
  | @lst a xs ea =>
    cases (show u = Value.ref a from rx)
    obtain ⟨_, _, n, _, h1⟩ := (show ObjOk X.prog X.w H s.heap a (.lst xs) from I.hok a _ ea)
    exact PySem.W.kia_one PySem.W.kitx_list I.kIn ⟨_, h1, rfl⟩ e (fun z => nomatch z) h
  | @frz a ob xs ea =>
    cases (show u = Value.ref a from rx)
    obtain ⟨_, _, _, n, _, h1⟩ := (show ObjOk X.prog X.w H s.heap a (.frz ob (.lst xs)) from I.hok a _ ea)
    exact PySem.W.kia_one PySem.W.kitx_list I.kIn ⟨_, h1, rfl⟩ e (fun z => nomatch z) h
  | @tup a xs ea =>
    cases (show u = Value.ref a from rx)
    obtain ⟨_, _, _, p⟩ := (show ObjOk X.prog X.w H s.heap a (.tup xs) from I.hok a _ ea)
    obtain ⟨o, h1, h2, _⟩ := p
    exact PySem.W.kia_one PySem.W.kitx_tuple I.kIn ⟨o, h1, h2⟩ e (fun z => nomatch z) h
  | @dK a kvs ea =>
    cases (show u = Value.ref a from rx)
    obtain ⟨_, _, vs, _, p⟩ := (show ObjOk X.prog X.w H s.heap a (.dK kvs) from I.hok a _ ea)
    obtain ⟨o, es, ep, h1, h2, _⟩ := p
    exact PySem.W.kia_one PySem.W.kitx_dict I.kIn ⟨o, h1, h2.1⟩ e (fun z => nomatch z) h
  | @dT a kvs ea =>
    cases (show u = Value.ref a from rx)
    obtain ⟨_, _, xs, _, o, es, ep, h1, h2, _⟩ := (show ObjOk X.prog X.w H s.heap a (.dT kvs) from I.hok a _ ea)
    exact PySem.W.kia_one PySem.W.kitx_dict I.kIn ⟨o, h1, h2.1⟩ e (fun z => nomatch z) h
  | @ins a C dx fs ea cl ha hn htk hm =>
    cases (show u = Value.ref a from rx)
    obtain ⟨mA, O, _⟩ := ins_get I.hok ea
    obtain ⟨od, J, _⟩ := O.look
    exact PySem.W.kia_one (PySem.W.kitx_own (cl.get _) cl.hd ha hn htk hm) I.kIn J e (fun z => nomatch z) h
end
end L2
namespace L2
open PySem PySem.Spec PyProof.Rows
structure Room (k : Nat) (A : Around) : Prop where
  hd : A.handled = none
  dp : A.depth + 3 * k + 5 < recursionLimit
  un : A.units + 16 * k + 200 < cLine
theorem Room.mono {j k : Nat} {A : Around} (r : Room k A) (h : j ≤ k) : Room j A := ⟨r.hd, by have := r.dp; omega, by have := r.un; omega⟩
theorem Room.deeper {k : Nat} {A : Around} (r : Room (k + 1) A) (env : Env) : Room k (A.deeper env) :=
  ⟨r.hd, by have := r.dp; show A.depth + 1 + 3 * k + 5 < _; omega, by have := r.un; show A.units + 3 + 16 * k + 200 < _; omega⟩
theorem Room.depth {k : Nat} {A : Around} (r : Room k A) : A.depth < recursionLimit := by have := r.dp; omega
theorem Room.units {k : Nat} {A : Around} (r : Room k A) : A.units + 64 < cLine := by have := r.un; omega
def tNil : TA := fun _ H Q => Q [] H
def tCons (ta : TE) (tr : TA) : TA := fun σ H Q => ta σ H fun x H1 => tr σ H1 fun xs H2 => Q (x :: xs) H2
section
variable {X : Cx} {e : Expr} {es : List Expr} {te : TE} {t : TA} {pos : Pos}
theorem pa_nil : PA X [] tNil := fun _ _ _ _ H Q I h => Calls.spliced_nil ⟨[], H, I, .nil, h⟩
theorem pa_cons (ha : PE X e te) (hr : PA X es t) (hs : starEach (e :: es) X.env = (false, eval e X.env) :: starEach es X.env := by rfl) : PA X (e :: es) (tCons te t) := by
  intro pos pins s σ H Q I h
  rw [hs]
  show wpAny _ _ (spliced ((false, eval e X.env) :: backTo pos (starEach es X.env))) _ _ s
  refine Calls.spliced_cons (thn (ha pins s σ H _ I h) fun u s1 ⟨x, H1, I1, r1, q1⟩ => ?_)
  exact thn (hr pos pins s1 σ H1 _ I1 q1) fun us s2 ⟨xs, H2, I2, r2, q2⟩ => ⟨x :: xs, H2, I2, .cons r1 r2, q2⟩
def tTup (t : TA) : TE := fun σ H Q => t σ H fun xs H1 => xs.length ≤ sizeLine ∧ ∀ p, H1 p = none → Q (.ref p) (upd H1 p (.tup xs))
def tLst (t : TA) : TE := fun σ H Q => t σ H fun xs H1 => xs.length ≤ sizeLine ∧ ∀ p, H1 p = none → Q (.ref p) (upd H1 p (.lst xs))
theorem pe_tup {x1} (h : PA X es t) : PE X (.Tuple es x1 pos) (tTup t) := by
  intro pins s σ H Q I hq
  refine wpAny_Tuple_spliced (thn (h pos pins s σ H _ I hq) fun us s1 ⟨xs, H1, I1, r, z, q⟩ => ⟨by rw [← r.length]; exact z, ?_⟩)
  have hf : H1 s1.heap.objs.size = none := I1.hok.fresh (Nat.le_refl _)
  refine ⟨.ref s1.heap.objs.size, upd H1 s1.heap.objs.size (.tup xs), I1.laid (t' := s1.toks) (fun b u e => Heap.get?_push_of_some _ e) (Nat.le_refl _) ?_, rfl, q _ hf⟩
  exact ⟨z, us, r, ⟨_, Heap.get?_push_size _ rfl, rfl, _, rfl⟩⟩
theorem pe_lst (h : PA X es t) : PE X (.List es pos) (tLst t) := by
  intro pins s σ H Q I hq
  refine wpAny_List_spliced (thn (h pos pins s σ H _ I hq) fun us s1 ⟨xs, H1, I1, r, z, q⟩ => ⟨by rw [← r.length]; exact z, ?_⟩)
  have hf : H1 s1.heap.objs.size = none := I1.hok.fresh (Nat.le_refl _)
  refine ⟨.ref s1.heap.objs.size, upd H1 s1.heap.objs.size (.lst xs), I1.laid (t' := s1.toks) (fun b u e => Heap.get?_push_of_some _ e) (Nat.le_refl _) ?_, rfl, q _ hf⟩
  exact ⟨z, us, 0, r, Heap.get?_push_size _ rfl⟩
end
abbrev Sp := List V → Hp → VK → XK → Prop
abbrev CXT := List Env → Hp → Shared → XK → Value → Shared → Prop
structure Env0 (P : Program) (w : World) (K : PySem.W.Frag) (mg : Str → Option Value) (base : Heap) (A : Around) (outer : List Env) (s : Shared) (H : Hp) : Prop where
  frames : A.frames = some outer
  mod : Mod K mg base
  bs : ∀ b o, base.get? b = some o → s.heap.get? b = some o ∧ H b = none
  bsz : base.objs.size ≤ s.heap.objs.size
  funs : s.heap.FunFrames base outer
  frf : ∀ b ∈ frs outer, H b = none
  hok : HOk P w H s.heap
  bare : AllBare s.gens
def CE (outer : List Env) (P : Program) (w : World) (H : Hp) (s : Shared) (Q : VK) (u : Value) (s' : Shared) : Prop :=
  ∃ v H', s'.os = s.os ∧ AllBare s'.gens ∧ Un (frs outer) [] H H' s.heap s'.heap ∧ HOk P w H' s'.heap ∧ RelV v u ∧ Q v H'
def CR (CX : CXT) (outer : List Env) (P : Program) (w : World) (H : Hp) (s : Shared) (Q : VK) (E : XK) (r : Result) (s' : Shared) : Prop :=
  match r with
  | .ok (.ret u) => CE outer P w H s Q u s'
  | .ok _ => False
  | .error e => CX outer H s E e s'
structure FnOk (P : Program) (w : World) (K : PySem.W.Frag) (mg : Str → Option Value) (base : Heap) (CX : CXT) (k : Nat) (f : Addr) (fd : FuncData) (ps : List Str) (sp : Sp) : Prop where
  len : ∀ vs H Q E, sp vs H Q E → vs.length = ps.length
  run : ∀ (A : Around) (outer : List Env) (s : Shared) (H : Hp) (args : Args) (us : List Value) (vs : List V) (Q : VK) (E : XK), Room k A → Env0 P w K mg base A outer s H → BindsTo s fd args (ps.zip us) → Vals vs us → sp vs H Q E →
    codeAny (model P w) A (.call (.ref f) args) (CR CX outer P w H s Q E) s
theorem FnOk.mono {P : Program} {w : World} {K : PySem.W.Frag} {mg : Str → Option Value} {base : Heap} {CX : CXT} {j k : Nat} {f : Addr} {fd : FuncData} {ps : List Str} {sp : Sp} (F : FnOk P w K mg base CX j f fd ps sp) (h : j ≤ k) :
    FnOk P w K mg base CX k f fd ps sp := ⟨F.len, fun A outer s H args us vs Q E hr => F.run A outer s H args us vs Q E (hr.mono h)⟩
theorem FnOk.imp {P : Program} {w : World} {K : PySem.W.Frag} {mg : Str → Option Value} {base : Heap} {CX : CXT} {k : Nat} {f : Addr} {fd : FuncData} {ps : List Str} {sp sp' : Sp} (F : FnOk P w K mg base CX k f fd ps sp)
    (h : ∀ vs H Q E, sp' vs H Q E → sp vs H Q E) : FnOk P w K mg base CX k f fd ps sp' :=
  ⟨fun vs H Q E q => F.len vs H Q E (h _ _ _ _ q), fun A outer s H args us vs Q E hr he hb hv hs => F.run A outer s H args us vs Q E hr he hb hv (h _ _ _ _ hs)⟩
section
variable {X : Cx} {pins : List (Addr × Obj)} {σ : St} {H : Hp} {s s' : Shared}
theorem Inv.env0 (I : Inv X pins σ H s) : Env0 X.prog X.w X.K X.mg X.base X.A X.stack s H :=
  ⟨I.ok.frames, I.ok.mod, I.bs, Nat.le_trans I.ok.bsz I.sz, I.stack, I.stkFree, I.hok, I.bare⟩
theorem Inv.after {Q : VK} {u : Value} (I : Inv X pins σ H s) (h : CE X.stack X.prog X.w H s Q u s') : EP X pins σ Q u s' := by
  obtain ⟨v, H', os, bare, un, hok, r, q⟩ := h
  obtain ⟨hh, g, d, t, os'⟩ := s'
  obtain rfl : os' = s.os := os
  exact ⟨v, H', I.call (h' := hh) (g' := g) (d' := d) (t' := t) (ch := []) un hok bare (fun b z => absurd z (by simp)), r, q⟩
end
def tCall (sp : Sp) (dvs : List V) (E : XK) (t : TA) : TE := fun σ H Q => t σ H fun vs H1 => sp (vs ++ dvs) H1 Q E
def Binds (K : PySem.W.Frag) (fd : FuncData) (ps : List Str) (ds : List Value) : Prop :=
  ∀ (s : Shared) (us : List Value), K.In s.heap → (us ++ ds).length = ps.length → BindsTo s fd ⟨us, []⟩ (ps.zip (us ++ ds))
theorem Binds.all {K : PySem.W.Frag} {fd : FuncData} {ps : List Str} (h : ∀ us : List Value, us.length = ps.length → bindArgs fd ⟨us, []⟩ = pure (ps.zip us)) : Binds K fd ps [] := fun s us _ hl => by
  rw [List.append_nil] at hl ⊢
  exact .of_eq (h us hl)
def Passes (CX : CXT) (X : Cx) (E : XK) : Prop := ∀ (pins : List (Addr × Obj)) (σ : St) (H : Hp) (s : Shared) (e : Value) (s' : Shared), Inv X pins σ H s → CX X.stack H s E e s' → X.xe e s'
section
variable {X : Cx} {CX : CXT} {k : Nat} {f C : Addr} {fd : FuncData} {ps : List Str} {sp : Sp} {dvs : List V} {ds : List Value} {E : XK} {x m : Str} {p pos apos : Pos} {e o : Expr} {es : List Expr} {ta : TE} {t : TA}
theorem run_fn {pins : List (Addr × Obj)} {σ : St} {H : Hp} {s : Shared} {Q : VK} {us : List Value} {vs : List V} (F : FnOk X.prog X.w X.K X.mg X.base CX k f fd ps sp) (hr : Room k X.A) (hb : Binds X.K fd ps ds) (hd : Vals dvs ds) (hx : Passes CX X E)
    (I : Inv X pins σ H s) (r : Vals vs us) (h : sp (vs ++ dvs) H Q E) : wpAny (model X.prog X.w) X.A (call (.ref f) us) (EP X pins σ Q) X.xe s := by
  have r2 : Vals (vs ++ dvs) (us ++ ds) := r.append hd
  have hl : (us ++ ds).length = ps.length := by rw [← r2.length]; exact F.len _ _ _ _ h
  refine wpAny_call (codeAny_mono (F.run X.A X.stack s H ⟨us, []⟩ (us ++ ds) (vs ++ dvs) Q E hr I.env0 (hb s us I.kIn hl) r2 h) fun r s' hq => ?_)
  cases r with
  | error e => exact hx pins σ H s e s' I hq
  | ok fl =>
    cases fl with
    | ret u => exact I.after hq
    | next => exact False.elim hq
    | brk => exact False.elim hq
    | cont => exact False.elim hq
theorem pe_call (F : FnOk X.prog X.w X.K X.mg X.base CX k f fd ps sp) (hr : Room k X.A) (hg : Gl X x) (hm : X.mg x = some (.ref f)) (hk : PySem.W.keepIn X.K (.ref f) = true) (hb : Binds X.K fd ps ds) (hd : Vals dvs ds) (hx : Passes CX X E)
    (ha : PA X (e :: es) t) (hdb : (x == ("__debug__" : Str)) = false := by decide) (he : starEach (e :: es) X.env = (false, eval e X.env) :: starEach es X.env := by rfl) (hpl : (backTo pos (starEach es X.env)).any (·.1) = false := by rfl) :
    PE X (.Call (.Name x p) (e :: es) [] pos) (tCall sp dvs E t) := by
  intro pins s σ H Q I h
  refine wpAny_Call_Name_kw (ld_glob I hg hm ?_ hdb)
  refine PySem.W.callWith_K (h₀ := X.base) I.ok.mod.kin hk (thn (ha pos pins s σ H _ I h) fun us s1 ⟨vs, H1, I1, r, q⟩ => ⟨I1.kIn, ?_⟩) he hpl
  exact run_fn F hr hb hd hx I1 r q
structure Mk (K : PySem.W.Frag) (C f : Addr) : Prop where
  makes : PySem.W.makesIn K C = true
  init : PySem.W.findIn K (.ref C) "__init__" = some (some (.ref f))
  fn : PySem.W.isFn K (.ref f) = true
  kp : PySem.W.keepIn K (.ref C) = true
end
section
variable {X : Cx} {CX : CXT} {k : Nat} {f C : Addr} {fd : FuncData} {ps ks : List Str} {sp : Sp} {E : XK} {x m : Str} {p pos apos kpos : Pos} {e o : Expr} {es : List Expr} {kws : List Keyword} {te ta : TE} {t tk : TA} {nm : Option Str}
structure KBinds (K : PySem.W.Frag) (fd : FuncData) (ps ks : List Str) (g : List Value → List Value → List Value) (gV : List V → List V → List V) : Prop where
  to : ∀ (s : Shared) (us ws : List Value), K.In s.heap → (g us ws).length = ps.length → BindsTo s fd ⟨us, ks.zip ws⟩ (ps.zip (g us ws))
  rel : ∀ {vs : List V} {us : List Value} {zs : List V} {ws : List Value}, Vals vs us → Vals zs ws → Vals (gV vs zs) (g us ws)
variable {g : List Value → List Value → List Value} {gV : List V → List V → List V}
end
structure FnScope (N P : List Str) (sc : Scope) : Prop where
  kind : sc.kind = .function
  co : sc.isCoroutine = false
  gen : sc.isGenerator = false
  nd : N.Nodup
  pre : N.take P.length = P
  par : ∀ x ∈ P, sc.names.lookup x = some .local ∨ sc.names.lookup x = some .cell
  nofree : ∀ y ∈ sc.names, y.2 ≠ .free
theorem bindL_out {kindOf : Str → Option NameKind} {x : Str} : ∀ {binds : List (Str × Value)} {m : Str → Option Value}, (∀ v, (x, v) ∉ binds) → bindL kindOf binds m x = m x
  | [], _, _ => rfl
  | (n, v) :: r, m, h => by
    unfold bindL
    rw [bindL_out fun w hw => h w (List.mem_cons_of_mem _ hw)]
    split
    · have : x ≠ n := by rintro rfl; exact h v List.mem_cons_self
      simp [this]
    · rfl
theorem bindC_out {kindOf : Str → Option NameKind} {x : Str} : ∀ {binds : List (Str × Value)} {m : Str → Option Value}, (∀ v, (x, v) ∉ binds) → bindC kindOf binds m x = m x
  | [], _, _ => rfl
  | (n, v) :: r, m, h => by
    unfold bindC
    rw [bindC_out fun w hw => h w (List.mem_cons_of_mem _ hw)]
    split
    · rfl
    · have : x ≠ n := by rintro rfl; exact h v List.mem_cons_self
      simp [this]
theorem bindL_get {kindOf : Str → Option NameKind} {x : Str} {v : Value} : ∀ {P : List Str} {vs : List Value} {i : Nat} {m : Str → Option Value}, P.Nodup → P[i]? = some x → vs[i]? = some v → kindOf x = some .local →
    bindL kindOf (P.zip vs) m x = some v
  | [], _, _, _, _, h, _, _ => by simp at h
  | _ :: _, [], _, _, _, _, h, _ => by simp at h
  | p :: P, w :: vs, 0, m, nd, h1, h2, hk => by
    simp at h1 h2; subst h1; subst h2
    show bindL kindOf ((p, w) :: P.zip vs) m p = _
    unfold bindL
    rw [bindL_out fun v hv => (List.nodup_cons.mp nd).1 (List.of_mem_zip hv).1, if_pos hk]
    simp
  | p :: P, w :: vs, i + 1, m, nd, h1, h2, hk => by
    show bindL kindOf ((p, w) :: P.zip vs) m x = _
    unfold bindL
    exact bindL_get (i := i) (List.nodup_cons.mp nd).2 (by simpa using h1) (by simpa using h2) hk
theorem bindC_get {kindOf : Str → Option NameKind} {x : Str} {v : Value} : ∀ {P : List Str} {vs : List Value} {i : Nat} {m : Str → Option Value}, P.Nodup → P[i]? = some x → vs[i]? = some v → kindOf x ≠ some .local →
    bindC kindOf (P.zip vs) m x = some v
  | [], _, _, _, _, h, _, _ => by simp at h
  | _ :: _, [], _, _, _, _, h, _ => by simp at h
  | p :: P, w :: vs, 0, m, nd, h1, h2, hk => by
    simp at h1 h2; subst h1; subst h2
    show bindC kindOf ((p, w) :: P.zip vs) m p = _
    unfold bindC
    rw [bindC_out fun v hv => (List.nodup_cons.mp nd).1 (List.of_mem_zip hv).1, if_neg hk]
    simp
  | p :: P, w :: vs, i + 1, m, nd, h1, h2, hk => by
    show bindC kindOf ((p, w) :: P.zip vs) m x = _
    unfold bindC
    exact bindC_get (i := i) (List.nodup_cons.mp nd).2 (by simpa using h1) (by simpa using h2) hk
def start (N : List Str) (vs : List V) : St := vs.map some ++ List.replicate (N.length - vs.length) none
def cxOf (CX : CXT) (P : Program) (w : World) (K : PySem.W.Frag) (mg : Str → Option Value) (base : Heap) (N : List Str) (qual : Str) (scope : Scope) (f : Addr) (cd : Value) (A : Around) (outer : List Env) (s : Shared) (H : Hp) (E : XK) : Cx where
  prog := P
  w := w
  K := K
  mg := mg
  base := base
  A := A.deeper (envOfC qual scope s.heap.objs.size f cd)
  N := N
  s₀ := s
  H₀ := H
  env := envOfC qual scope s.heap.objs.size f cd
  outer := outer
  stack := envOfC qual scope s.heap.objs.size f cd :: outer
  ex := []
  calm := true
  fn := fun _ => true
  pn := []
  xe := fun e s' => wpAny (model P w) (A.deeper (envOfC qual scope s.heap.objs.size f cd)) (leaving (envOfC qual scope s.heap.objs.size f cd) e) (fun _ s'' => CX outer H s E e s'') (fun e' s'' => CX outer H s E e' s'') s'
theorem cell_has {sc : Scope} {n : Nat} {x : Str} (h : sc.names.lookup x = some .cell) : ∃ c, (cellsFrom n sc.names []).lookup x = some c := by
  have q := PySem.W.cellsFrom_some sc.names n [] (.inl h)
  exact Option.isSome_iff_exists.mp q
theorem inv_start {CX : CXT} {P : Program} {w : World} {K : PySem.W.Frag} {mg : Str → Option Value} {base : Heap} {N ps : List Str} {qual : Str} {scope : Scope} {f : Addr} {cd : Value} {A : Around} {outer : List Env} {s s1 : Shared} {H : Hp} {E : XK} {us : List Value} {vs : List V}
    (S : FnScope N ps scope) (hd : A.handled = none) (e0 : Env0 P w K mg base A outer s H) (hl : vs.length = ps.length) (r : Vals vs us)
    (x : InCallC s s.heap.objs.size (bindL (envOfC qual scope s.heap.objs.size f cd).kindOf (ps.zip us) fun _ => none) (cellsFrom (s.heap.objs.size + 1) scope.names []) (bindC (envOfC qual scope s.heap.objs.size f cd).kindOf (ps.zip us) fun _ => none) s1) :
    Inv (cxOf CX P w K mg base N qual scope f cd A outer s H E) [] (start N vs) H s1 := by
  have hpl : ps.length ≤ N.length := by have := congrArg List.length S.pre; rw [List.length_take] at this; omega
  obtain ⟨h1, tk, rfl, hk⟩ := x.done
  have noA : ∀ b : Addr, b ∉ (cxOf CX P w K mg base N qual scope f cd A outer s H E).ex := fun b z => absurd (show b ∈ ([] : List Addr) from z) (by simp)
  refine ⟨⟨e0.mod, S.kind, rfl, rfl, Nat.le_refl _, fun y z c h1 h2 => ?_, fun y hy => ?_, fun y c _ h => ?_, fun _ => hd, Around.frames_deeper e0.frames, .inr ⟨rfl, rfl⟩, fun b z => absurd z (noA b), e0.bs, e0.bsz, fun b _ _ => noA b, fun b z => absurd z (noA b), e0.funs, e0.frf⟩,
    rfl, e0.bare, Un.kept hk, ⟨_, x.toInCall.ns, fun i y v h1 h2 h3 => ?_⟩, fun y c h => ⟨_, x.cell y c h⟩, e0.hok.fresh (Nat.le_refl _), fun y c h => ?_, fun p hp => absurd (show p ∈ ([] : List (Addr × Obj)) from hp) (by simp), e0.hok.kept hk, ?_⟩
  · exact name_of_addr x.apart (PySem.mem_of_lookup h1) (PySem.mem_of_lookup h2)
  · have hy : scope.names.lookup y = some .cell ∨ scope.names.lookup y = some .free := hy
    rcases hy with hy | hy
    · exact cell_has hy
    · exact absurd rfl (S.nofree _ (PySem.mem_of_lookup hy))
  · exact Nat.le_of_lt (x.above y c (PySem.mem_of_lookup h))
  · have hi : i < vs.length := by
      unfold start at h2
      by_cases hi : i < vs.length
      · exact hi
      · rw [List.getElem?_append_right (by simpa using hi)] at h2
        rw [List.getElem?_replicate] at h2
        split at h2 <;> cases h2
    have ha : vs[i]? = some v := by
      unfold start at h2
      rw [List.getElem?_append_left (by simpa using hi), List.getElem?_map] at h2
      cases e : vs[i]? with
      | none => rw [e] at h2; cases h2
      | some a => rw [e] at h2; cases h2; rfl
    obtain ⟨u, hu, rv⟩ := r.get ha
    have hp : ps[i]? = some y := by
      rw [← S.pre, List.getElem?_take_of_lt (by omega)]; exact h1
    have ndP : ps.Nodup := by rw [← S.pre]; exact S.nd.sublist (List.take_sublist _ _)
    refine ⟨u, rv, ?_⟩
    rcases S.par y (List.mem_of_getElem? hp) with k | k
    · exact .inl ⟨k, bindL_get ndP hp hu k⟩
    · obtain ⟨c, e⟩ := cell_has (n := s.heap.objs.size + 1) k
      refine .inr ⟨.inl k, c, e, ?_⟩
      have q := x.cell y c e
      rw [bindC_get ndP hp hu (by show scope.names.lookup y ≠ _; rw [k]; decide)] at q
      exact q
  · exact e0.hok.fresh (Nat.le_of_lt (x.above y c (PySem.mem_of_lookup h)))
  · unfold start
    show _ = N.length
    rw [List.length_append, List.length_map, List.length_replicate]
    omega
theorem fn_of {CX : CXT} {P : Program} {w : World} {K : PySem.W.Frag} {mg : Str → Option Value} {base : Heap} {k : Nat} {f : Addr} {name qual : Str} {params : Arguments} {body : List Stmt} {scope : Scope} {dV kV doc pm cdv ct oc : Value} {an od : Option Addr}
    {osl : Array (Option Value)} {N ps : List Str} {sp : Sp} (lk : K.lookup f = some ⟨oc, od, .func (PySem.W.fnOf name qual params body scope dV kV doc pm an cdv ct), osl⟩) (hcd : PySem.W.codeIn K cdv qual = true) (S : FnScope N ps scope)
    (len : ∀ vs H Q E, sp vs H Q E → vs.length = ps.length)
    (hbody : ∀ (A : Around) (outer : List Env) (s : Shared) (H : Hp) (vs : List V) (Q : VK) (E : XK), Room k (A.deeper (envOfC qual scope s.heap.objs.size f cdv)) → sp vs H Q E →
      ∃ t, PSs (cxOf CX P w K mg base N qual scope f cdv A outer s H E) body t ∧ t { nx := fun _ H' => Q .non H', rt := Q } (start N vs) H) :
    FnOk P w K mg base CX (k + 1) f (PySem.W.fnOf name qual params body scope dV kV doc pm an cdv ct) ps sp := by
  refine ⟨len, fun A outer s H args us vs Q E hr e0 hb r hsp => ?_⟩
  have hl := len _ _ _ _ hsp
  have KX : K.In s.heap := e0.mod.kin.keeps fun b o e => (e0.bs b o e).1
  have lim : s.heap.NoLimit := e0.mod.nolimit.keeps fun b o e => (e0.bs b o e).1
  have hkind : ∀ y ∈ ps.zip us, scope.names.lookup y.1 = some .local ∨ (scope.names.lookup y.1 = some .cell ∧ ((cellsFrom (s.heap.objs.size + 1) scope.names []).lookup y.1).isSome = true) := fun ⟨n, v⟩ hy => by
    rcases S.par n (List.of_mem_zip hy).1 with q | q
    · exact .inl q
    · exact .inr ⟨q, PySem.W.cellsFrom_some _ _ _ (.inl q)⟩
  refine codeAny_call_function hr.depth (KX _ _ lk) rfl S.co S.gen rfl (PySem.W.codeRec_of KX hcd) (hb _ _ _ _ ?_)
  refine wpAny_newFunctionEnv_cells S.kind hkind fun env he s1 x => ?_
  subst he
  refine ⟨lim.keeps x.toInCall.keep, codeAny_func ?_⟩
  obtain ⟨t, ht, hq⟩ := hbody A outer s H vs Q E (hr.deeper _) hsp
  have I : Inv (cxOf CX P w K mg base N qual scope f cdv A outer s H E) [] (start N vs) H s1 := inv_start S hr.hd e0 hl r x
  refine wpAny_mono (ht [] s1 (start N vs) H _ I hq) (fun fl s' hs => ?_) fun e s' hs => hs
  have fin : ∀ {σ' : St} {H' : Hp} {v : V} {u : Value}, Inv (cxOf CX P w K mg base N qual scope f cdv A outer s H E) [] σ' H' s' → RelV v u → Q v H' → CE outer P w H s Q u s' :=
    fun {σ' H' v u} J rv q => ⟨v, H', J.os, J.bare, J.base, J.hok, rv, q⟩
  cases fl with
  | ret u =>
    obtain ⟨v, σ', H', J, rv, q⟩ := hs
    exact fin J rv q
  | next =>
    obtain ⟨σ', H', J, q⟩ := hs
    exact fin (v := V.non) (u := Value.none) J rfl q
  | brk =>
    obtain ⟨_, _, _, q⟩ := hs
    exact False.elim q
  | cont =>
    obtain ⟨_, _, _, q⟩ := hs
    exact False.elim q
end L2
namespace L2
open PySem PySem.Spec PyProof.Rows
section
variable {X : Cx} {x : Str} {p pos : Pos} {e : Expr} {es : List Expr} {t : TA} {id T : String} {r : List V → Hp → VK → Prop}
def tCB (r : List V → Hp → VK → Prop) (t : TA) : TE := fun σ H Q => t σ H fun vs H1 => r vs H1 Q
theorem pe_callB (hc : CallR X (.builtin id) r) (hg : Gl X x) (hm : X.mg x = none) (hv : bootBuiltins x = some (.builtin id)) (ha : PA X (e :: es) t) (hn : x ≠ "__name__" := by decide) (hdb : (x == ("__debug__" : Str)) = false := by decide)
    (he : starEach (e :: es) X.env = (false, eval e X.env) :: starEach es X.env := by rfl) (hpl : (backTo pos (starEach es X.env)).any (·.1) = false := by rfl) : PE X (.Call (.Name x p) (e :: es) [] pos) (tCB r t) := by
  intro pins s σ H Q I h
  refine wpAny_Call_Name_kw (ld_blt I hg hm hv ?_ hn hdb)
  exact PyProof.Rows.callWith_builtin1 (thn (ha pos pins s σ H _ I h) fun us s1 ⟨vs, H1, I1, r1, q1⟩ => hc pins s1 σ H1 vs us Q I1 r1 q1) he hpl
theorem pe_callTy (hc : CallR X (.type T) r) (hg : Gl X x) (hm : X.mg x = none) (hv : bootBuiltins x = some (.type T)) (ha : PA X (e :: es) t) (hn : x ≠ "__name__" := by decide) (hdb : (x == ("__debug__" : Str)) = false := by decide)
    (he : starEach (e :: es) X.env = (false, eval e X.env) :: starEach es X.env := by rfl) (hpl : (backTo pos (starEach es X.env)).any (·.1) = false := by rfl) : PE X (.Call (.Name x p) (e :: es) [] pos) (tCB r t) := by
  intro pins s σ H Q I h
  refine wpAny_Call_Name_kw (ld_blt I hg hm hv ?_ hn hdb)
  exact PyProof.Rows.callWith_type1 (thn (ha pos pins s σ H _ I h) fun us s1 ⟨vs, H1, I1, r1, q1⟩ => hc pins s1 σ H1 vs us Q I1 r1 q1) he hpl
end
end L2
namespace HT
open PySem PyProof.Rows
section
open PySem.SeqAt
open PySem.AutoSeq1 (wpAny_loadPart')
open PySem.MeetsSeq PySem.MeetsSeq2 PySem.MeetsSeq3
end
section
variable {prog : Program} {w : World} {A : Around} {E : Value → Shared → Prop} {s : Shared}
def sIx (n d : Nat) : Option Int → Nat
  | none => d
  | some v => if v < 0 then (v + (n : Int)).toNat else min v.toNat n
end
end HT
namespace L2
open PySem PySem.Spec PyProof.Rows
abbrev TO := St → Hp → (Option Int → Hp → Prop) → Prop
def PO (X : Cx) (e : Option Expr) (t : TO) : Prop :=
  ∀ (pins : List (Addr × Obj)) (s : Shared) (σ : St) (H : Hp) (Q : Option Int → Hp → Prop), Inv X pins σ H s → t σ H Q →
    wpAny (model X.prog X.w) X.A (evalPart e X.env) (fun u s' => ∃ o H', Inv X pins σ H' s' ∧ IsPart u o ∧ Q o H') X.xe s
def tNoPart : TO := fun _ H Q => Q none H
def tPart (t : TE) : TO := fun σ H Q => t σ H fun x H1 => ∃ i, x = .int i ∧ Q (some i) H1
section
variable {X : Cx} {e : Expr} {te : TE} {lo hi : Option Expr} {tl th : TO} {pos p2 : Pos}
theorem po_none : PO X none tNoPart := by
  intro pins s σ H Q I h
  rw [evalPart_none]
  exact wpAny_pure ⟨none, H, I, .none, h⟩
theorem po_some (h : PE X e te) : PO X (some e) (tPart te) := by
  intro pins s σ H Q I hw
  rw [evalPart_some]
  refine thn (h pins s σ H _ I hw) fun u s1 ⟨x, H1, I1, r1, q1⟩ => ?_
  obtain ⟨i, rfl, q⟩ := q1
  obtain ⟨t, rfl⟩ := r1
  exact ⟨some i, H1, I1, .int i t, q⟩
def SlR (X : Cx) (r : V → Option Int → Option Int → Hp → VK → Prop) : Prop :=
  ∀ (pins : List (Addr × Obj)) (s : Shared) (σ : St) (H : Hp) (x : V) (v vl vu : Value) (lo hi : Option Int) (sl : Addr) (Q : VK), Inv X pins σ H s → RelV x v → s.heap.IsSliceOf sl vl vu .none → IsPart vl lo → IsPart vu hi → r x lo hi H Q →
    ∃ T id, typeLookup (.type T) "__getitem__" = pure (some (.builtin id)) ∧ s.TypeIs v T ∧ wpAny (model X.prog X.w) X.A (getItem v (.ref sl)) (EP X pins σ Q) X.xe s
def tSl (r : V → Option Int → Option Int → Hp → VK → Prop) (te : TE) (tl th : TO) : TE := fun σ H Q => te σ H fun x H1 => tl σ H1 fun l H2 => th σ H2 fun u H3 => r x l u H3 Q
theorem pe_slice {r : V → Option Int → Option Int → Hp → VK → Prop} (hr : SlR X r) (he : PE X e te) (hl : PO X lo tl) (hu : PO X hi th) : PE X (.Subscript e (.Slice lo hi none p2) pos) (tSl r te tl th) := by
  intro pins s σ H Q I h
  refine Subscript_ (thn (he pins s σ H _ I h) fun v s1 ⟨x, H1, I1, r1, q1⟩ => ?_)
  refine wpAny_Slice (thn (hl pins s1 σ H1 _ I1 q1) fun vl s2 ⟨l, H2, I2, pl, q2⟩ => thn (hu pins s2 σ H2 _ I2 q2) fun vu s3 ⟨u, H3, I3, pu, q3⟩ => ?_)
  rw [evalPart_none]
  refine wpAny_pure ?_
  have I4 : Inv X pins σ H3 { s3 with heap := s3.heap.push { cls := .type "slice", data := .fields #[vl, vu, .none] } } := I3.kept (t' := s3.toks) fun b ob q => Heap.get?_push_of_some _ q
  obtain ⟨T, id, hT, ht, hg⟩ := hr pins { s3 with heap := s3.heap.push { cls := .type "slice", data := .fields #[vl, vu, .none] } } σ H3 x v vl vu l u s3.heap.objs.size Q I4 r1 (Heap.IsSliceOf.new ..) pl pu q3
  show wpAny (model X.prog X.w) X.A (subscriptTail e (.Slice lo hi none p2) v (.ref s3.heap.objs.size)) (EP X pins σ Q) X.xe { s3 with heap := s3.heap.push { cls := .type "slice", data := .fields #[vl, vu, .none] } }
  exact tail_any (ops := [.ref s3.heap.objs.size, v]) ht hT hg (by with_unfolding_all rfl)
def cutV (xs : List V) (lo hi : Option Int) : List V := (xs.drop (HT.sIx xs.length 0 lo)).take (HT.sIx xs.length xs.length hi - HT.sIx xs.length 0 lo)
theorem cutV_length (xs : List V) (lo hi : Option Int) : (cutV xs lo hi).length ≤ xs.length := by
  unfold cutV
  rw [List.length_take, List.length_drop]
  omega
end
end L2
namespace L2
open PySem PySem.Spec PyProof.Rows
def ixN (n : Nat) (i : Int) : Option Nat := if 0 ≤ i then (if i < n then some i.toNat else none) else if -(n : Int) ≤ i then some (i + n).toNat else none
def atI {α : Type} (xs : List α) (i : Int) : Option α := (ixN xs.length i).bind fun j => xs[j]?
theorem ixN_seq {n : Nat} {i : Int} {j : Nat} (h : ixN n i = some j) : seqIndex? i n = some j ∧ j < n ∧ -(n : Int) ≤ i ∧ i < n := by
  unfold ixN at h
  by_cases h0 : 0 ≤ i
  · rw [if_pos h0] at h
    by_cases h1 : i < n
    · rw [if_pos h1] at h
      have e : i.toNat = j := Option.some.inj h
      exact ⟨by rw [seqIndex_of h0 h1, e], by omega, by omega, h1⟩
    · rw [if_neg h1] at h; cases h
  · rw [if_neg h0] at h
    by_cases h1 : -(n : Int) ≤ i
    · rw [if_pos h1] at h
      have e : (i + n).toNat = j := Option.some.inj h
      exact ⟨by rw [seqIndex_neg (by omega) h1, e], by omega, h1, by omega⟩
    · rw [if_neg h1] at h; cases h
theorem atI_get {α : Type} {xs : List α} {i : Int} {v : α} (h : atI xs i = some v) : ∃ j, seqIndex? i xs.length = some j ∧ xs[j]? = some v ∧ j < xs.length ∧ -(xs.length : Int) ≤ i ∧ i < xs.length := by
  unfold atI at h
  cases e : ixN xs.length i with
  | none => rw [e] at h; cases h
  | some j =>
    rw [e] at h
    obtain ⟨h1, h2, h3, h4⟩ := ixN_seq e
    exact ⟨j, h1, h, h2, h3, h4⟩
def PlainIx (b : Expr) : Prop := ∀ o i, subscripted b false o i = operate [o, i] (getItem o i)
def IxR (X : Cx) (r : R2) : Prop :=
  ∀ (value slice : Expr) (pins : List (Addr × Obj)) (s : Shared) (σ : St) (H : Hp) (x y : V) (v u : Value) (Q : VK), Inv X pins σ H s → RelV x v → RelV y u → r x y H Q →
    subscripted slice false v u = operate [v, u] (getItem v u) → wpAny (model X.prog X.w) X.A (subscriptTail value slice v u) (EP X pins σ Q) X.xe s
def MtR (X : Cx) (id : String) (r : V → List V → Hp → VK → Prop) : Prop :=
  ∀ (pins : List (Addr × Obj)) (s : Shared) (σ : St) (H : Hp) (x : V) (xs : List V) (v : Value) (us : List Value) (Q : VK), Inv X pins σ H s → RelV x v → Vals xs us → r x xs H Q →
    wpAny (model X.prog X.w) X.A (call (.builtin id) (v :: us)) (EP X pins σ Q) X.xe s
section
variable {X : Cx} {a b : Expr} {ta tb : TE} {pos : Pos}
theorem IxR.or {r r' : R2} (h : IxR X r) (h' : IxR X r') : IxR X (fun x y H Q => r x y H Q ∨ r' x y H Q) := by
  intro value slice pins s σ H x y v u Q I rx ry q hs
  rcases q with q | q
  · exact h value slice pins s σ H x y v u Q I rx ry q hs
  · exact h' value slice pins s σ H x y v u Q I rx ry q hs
theorem pe_ix {r : R2} (hr : IxR X r) (ha : PE X a ta) (hb : PE X b tb) (hs : PlainIx b) : PE X (.Subscript a b pos) (tOp r ta tb) := by
  intro pins s σ H Q I h
  exact Subscript_ (binT ha hb I h fun v u s2 x y H2 I2 rx ry q => hr a b pins s2 σ H2 x y v u Q I2 rx ry q (hs _ _))
def rIxL (K : PySem.W.Frag) : R2 := fun x y H Q => ∃ p xs i v, x = .ref p ∧ y = .int i ∧ SqL K H p xs ∧ atI xs i = some v ∧ Q v H
def rIxT (K : PySem.W.Frag) : R2 := fun x y H Q => ∃ p xs i v, x = .ref p ∧ y = .int i ∧ SqT K H p xs ∧ atI xs i = some v ∧ Q v H
def rIxS : R2 := fun x y H Q => ∃ z i c, x = .str z ∧ y = .int i ∧ z.length ≤ sizeLine ∧ atI z.cps.toList i = some c ∧ Q (.str ⟨#[c]⟩) H
theorem ix_list : IxR X (rIxL X.K) := by
  intro value slice pins s σ H x y v u Q I rx ry h hs
  obtain ⟨p, xs, i, z, rfl, rfl, hq, he, q⟩ := h
  cases rx
  obtain ⟨t, rfl⟩ := ry
  obtain ⟨its, r, pl, hz⟩ := I.list hq
  obtain ⟨j, h1, h2, h3, h4, h5⟩ := atI_get he
  obtain ⟨w, ew, rw'⟩ := r.get h2
  have hl := r.length
  have hn := line63
  have fin : EP X pins σ Q w s := ⟨z, H, I, rw', q⟩
  by_cases h0 : 0 ≤ i
  · have hj : i.toNat = j := by
      rw [seqIndex_of h0 h5] at h1
      exact Option.some.inj h1
    exact item_listR pl.isList h0 (by omega) (by rw [hj]; simpa using ew) fin hs
  · have hj : (i + (its.toArray.size : Int)).toNat = j := by
      rw [seqIndex_neg (by omega) h4] at h1
      rw [List.size_toArray, ← hl]
      exact Option.some.inj h1
    exact subscriptTail_builtinR (x := w) pl.isList.typeIs slot_list_getitem.lookup
      (wpAny_getItem_list_neg (Q := fun r s' => r = w ∧ EP X pins σ Q r s') pl.isList (by omega) (by rw [List.size_toArray] <;> omega) (by omega) (by rw [hj]; simpa using ew) ⟨rfl, fin⟩) hs
theorem ix_tup : IxR X (rIxT X.K) := by
  intro value slice pins s σ H x y v u Q I rx ry h hs
  obtain ⟨p, xs, i, z, rfl, rfl, hq, he, q⟩ := h
  cases rx
  obtain ⟨t, rfl⟩ := ry
  obtain ⟨its, r, pl, hz⟩ := I.tuple hq
  obtain ⟨j, h1, h2, h3, h4, h5⟩ := atI_get he
  obtain ⟨w, ew, rw'⟩ := r.get h2
  have hl := r.length
  have hn := line63
  have fin : EP X pins σ Q w s := ⟨z, H, I, rw', q⟩
  exact subscriptTail_builtinR (x := w) pl.typeIs slot_tuple_getitem.lookup
    (getItem_tuple (j := j) (Q := fun r s' => r = w ∧ EP X pins σ Q r s') pl (by omega) (by omega) (by rw [List.size_toArray, ← hl]; exact h1) (by simpa using ew) ⟨rfl, fin⟩) hs
theorem ix_str : IxR X rIxS := by
  intro value slice pins s σ H x y v u Q I rx ry h hs
  obtain ⟨z, i, c, rfl, rfl, hz, he, q⟩ := h
  obtain ⟨t, rfl⟩ := rx
  obtain ⟨t', rfl⟩ := ry
  obtain ⟨j, h1, h2, h3, h4, h5⟩ := atI_get he
  have hl : z.cps.toList.length = z.length := by simp [Str.length]
  rw [hl] at h1 h4 h5
  have hn := line63
  exact tail_any (typeIs_str s z t) slot_str_getitem.lookup (getItem_str (c := c) (by
    have e1 : decide (i < -(2 ^ 63 : Int)) = false := decide_eq_false (by omega)
    have e2 : decide (i ≥ 2 ^ 63) = false := decide_eq_false (by omega)
    rw [e1, e2, Bool.or_false]) (by rw [h1]; simpa using h2) ⟨.str ⟨#[c]⟩, H, I.tok _, ⟨_, rfl⟩, q⟩) hs
def rIx (K : PySem.W.Frag) : R2 := fun x y H Q => rIxL K x y H Q ∨ rIxT K x y H Q ∨ rIxS x y H Q
theorem ix_seq : IxR X (rIx X.K) := ix_list.or (ix_tup.or ix_str)
theorem slice_bounds (lo hi : Option Int) (n : Nat) : (sliceBounds lo hi none n).1 = ((HT.sIx n 0 lo : Nat) : Int) ∧ (sliceBounds lo hi none n).2.1 = ((HT.sIx n n hi : Nat) : Int) ∧ (sliceBounds lo hi none n).2.2 = 1 := by
  refine ⟨?_, ?_, rfl⟩
  · cases lo with
    | none => simp [sliceBounds, HT.sIx]
    | some i =>
      simp only [sliceBounds, HT.sIx, Option.getD_none, show (1 : Int) > 0 by decide, if_true]
      by_cases h : i < 0
      · simp only [h, if_true] <;> omega
      · simp only [h, if_false] <;> omega
  · cases hi with
    | none => simp [sliceBounds, HT.sIx]
    | some i =>
      simp only [sliceBounds, HT.sIx, Option.getD_none, show (1 : Int) > 0 by decide, if_true]
      by_cases h : i < 0
      · simp only [h, if_true] <;> omega
      · simp only [h, if_false] <;> omega
theorem slicePick_cut (its : List Value) (lo hi : Option Int) : slicePick its.toArray lo hi none = ((its.drop (HT.sIx its.length 0 lo)).take (HT.sIx its.length its.length hi - HT.sIx its.length 0 lo)).toArray := by
  obtain ⟨h1, h2, h3⟩ := slice_bounds lo hi its.toArray.size
  unfold slicePick
  rw [h1, h2, h3]
  simp only [sliceRange_one, pick_run, List.size_toArray] <;> rfl
def rSlL (K : PySem.W.Frag) : V → Option Int → Option Int → Hp → VK → Prop := fun x lo hi H Q => ∃ a xs, x = .ref a ∧ SqL K H a xs ∧ ∀ p, H p = none → Q (.ref p) (upd H p (.lst (cutV xs lo hi)))
theorem sl_list : SlR X (rSlL X.K) := by
  intro pins s σ H x v vl vu lo hi sl Q I rx hs pl pu h
  obtain ⟨a, xs, rfl, hx, q⟩ := h
  cases rx
  obtain ⟨its, r, ht, hz⟩ := I.list hx
  have hlen := r.length
  refine ⟨"list", _, slot_list_getitem.lookup, ht.isList.typeIs, ?_⟩
  refine wpAny_getItem_list_slice ht.isList hs pl pu .none (by simp) ?_ (by rw [List.size_toArray] <;> omega)
  rw [slicePick_cut, ← hlen]
  refine ⟨.ref s.heap.objs.size, _, I.laid (t' := s.toks) (o := .lst (cutV xs lo hi)) (fun b ob q => Heap.get?_push_of_some _ q) (Nat.le_refl _) ?_, rfl, q _ (I.hok.fresh (Nat.le_refl _))⟩
  exact ⟨Nat.le_trans (cutV_length xs lo hi) hz, _, 0, (r.drop (HT.sIx xs.length 0 lo)).take (HT.sIx xs.length xs.length hi - HT.sIx xs.length 0 lo), Heap.get?_push_size _ rfl⟩
theorem call_len_seq : CallR X (.builtin "len") (fun xs H Q => ∃ p ys, xs = [.ref p] ∧ (SqL X.K H p ys ∨ SqT X.K H p ys) ∧ Q (.int ys.length) H) := by
  intro pins s σ H xs us Q I r h
  obtain ⟨p, ys, rfl, hq, q⟩ := h
  obtain ⟨u, rfl, rx⟩ := vals1 r
  cases rx
  have hn := line63
  rcases hq with hq | hq
  · obtain ⟨its, r', pl, hz⟩ := I.list hq
    have hlen := r'.length
    exact Calls.call_len_list pl.isList (by simp only [List.size_toArray] <;> omega) ⟨.int ys.length, H, I.tok _, ⟨s.toks + 1, by rw [List.size_toArray, hlen]⟩, q⟩
  · obtain ⟨its, r', pl, hz⟩ := I.tuple hq
    have hlen := r'.length
    exact len_tuple pl (by simp only [List.size_toArray] <;> omega) ⟨.int ys.length, H, I.tok _, ⟨s.toks + 1, by rw [List.size_toArray, hlen]⟩, q⟩
theorem call_len_str : CallR X (.builtin "len") (fun xs H Q => ∃ z, xs = [.str z] ∧ z.length ≤ sizeLine ∧ Q (.int z.length) H) := by
  intro pins s σ H xs us Q I r h
  obtain ⟨z, rfl, hz, q⟩ := h
  obtain ⟨u, rfl, t, rfl⟩ := vals1 r
  have hn := line63
  exact len_str (by omega) ⟨.int z.length, H, I.tok _, ⟨_, rfl⟩, q⟩
def tyV (K : PySem.W.Frag) (T : String) (x : V) (H : Hp) : Prop := match x with
  | .str _ => T = "str"
  | .int _ => T = "int"
  | .ref p => (T = "list" ∧ ∃ xs, SqL K H p xs) ∨ (T = "tuple" ∧ ∃ o, K.lookup p = some o ∧ o.cls = .type "tuple" ∧ o.dict = none) ∨
      (T = "dict" ∧ ((∃ kvs, H p = some (.dK kvs)) ∨ ∃ kvs, H p = some (.dT kvs))) ∨ (T = "set" ∧ ∃ S n, H p = some (.set S n))
  | _ => False
theorem tyV_is {pins : List (Addr × Obj)} {σ : St} {H : Hp} {s : Shared} {T : String} {x : V} {v : Value} (I : Inv X pins σ H s) (r : RelV x v) (ty : tyV X.K T x H) :
    s.TypeIs v T ∧ ∀ a, v = .ref a → ∃ ob, s.heap.get? a = some ob ∧ ob.dict = none := by
  cases x with
  | str z =>
    obtain ⟨t, rfl⟩ := r
    cases (show T = "str" from ty)
    exact ⟨typeIs_str s z t, fun _ e => nomatch e⟩
  | int i =>
    obtain ⟨t, rfl⟩ := r
    cases (show T = "int" from ty)
    exact ⟨typeIs_int s i t, fun _ e => nomatch e⟩
  | ref p =>
    cases r
    rcases ty with ⟨rfl, xs, hq⟩ | ⟨rfl, o, hk, hc, hd⟩ | ⟨rfl, hk⟩ | ⟨rfl, S, n, hk⟩
    · obtain ⟨its, _, pl, _⟩ := I.list hq
      refine ⟨pl.isList.typeIs, fun a e => ?_⟩
      cases e
      obtain ⟨o, n, e, c, hd, _⟩ := pl
      exact ⟨o, e, hd⟩
    · refine ⟨⟨o, I.kIn p o hk, hc⟩, fun a e => ?_⟩
      cases e
      exact ⟨o, I.kIn _ o hk, hd⟩
    · have z : ∃ o, s.heap.get? p = some o ∧ o.ExactDict := by
        rcases hk with ⟨kvs, hk⟩ | ⟨kvs, hk⟩
        · obtain ⟨_, _, _, _, o, _, _, e, ex, _⟩ := I.hok p _ hk
          exact ⟨o, e, ex⟩
        · obtain ⟨_, _, _, _, o, _, _, e, ex, _⟩ := I.hok p _ hk
          exact ⟨o, e, ex⟩
      obtain ⟨o, e, ex⟩ := z
      refine ⟨⟨o, e, ex.1⟩, fun a e2 => ?_⟩
      cases e2
      exact ⟨o, e, ex.2.1⟩
    · obtain ⟨o, _, _, _, e, ex, _⟩ := I.hok p _ hk
      refine ⟨⟨o, e, ex.1⟩, fun a e2 => ?_⟩
      cases e2
      exact ⟨o, e, ex.2.1⟩
  | _ => exact False.elim ty
def tBM (K : PySem.W.Frag) (T : String) (r : V → List V → Hp → VK → Prop) (to : TE) (t : TA) : TE := fun σ H Q => to σ H fun x H1 => tyV K T x H1 ∧ t σ H1 fun xs H2 => r x xs H2 Q
variable {o e : Expr} {es : List Expr} {to : TE} {t : TA} {name : Str} {apos cpos : Pos} {T id : String} {r : V → List V → Hp → VK → Prop}
theorem pe_bm (pa : PlainAttrs T) (slot : Slot T name id) (hty : typeOf (.builtin id) = pure (.type "method_descriptor")) (hm : MtR X id r) (ho : PE X o to) (ha : PA X (e :: es) t)
    (hbase : attributeBase o name X.env (eval o X.env) = eval o X.env := by rfl)
    (hfew : ((backTo cpos (starEach (e :: es) X.env)).all (fun x => !x.1) && (backToKw cpos (keywordEach [] X.env)).all (fun x => x.1.isSome)
      && decide ((e :: es).length + ([] : List Keyword).length + (if ([] : List Keyword).isEmpty then 0 else 1) < 30)) = true := by rfl)
    (hline : (apos.endLine == cpos.line) = true := by rfl) (hs : starEach (e :: es) X.env = (false, eval e X.env) :: starEach es X.env := by rfl) (hplain : (backTo cpos (starEach es X.env)).any (·.1) = false := by rfl) :
    PE X (.Call (.Attribute o name apos) (e :: es) [] cpos) (tBM X.K T r to t) := by
  intro pins s σ H Q I h
  refine wpAny_Call_method_late hbase hfew hline rfl (thn (ho pins s σ H _ I h) fun v s1 ⟨x, H1, I1, r1, ty, q1⟩ => ?_)
  obtain ⟨h1, h2⟩ := tyV_is I1 r1 ty
  refine ⟨T, id, pa, slot, hty, h1, h2, ?_⟩
  have hA := ha cpos pins s1 σ H1 _ I1 q1
  rw [hs] at hA ⊢
  refine Calls.callWith_builtin (by show (false || (backTo cpos (starEach es X.env)).any (·.1)) = false; rw [hplain] <;> rfl) (Calls.evalArgs_plain ?_)
  exact thn hA fun us s2 ⟨vs, H2, I2, r2, q2⟩ => hm pins s2 σ H2 x vs v us Q I2 r1 r2 q2
/- xs.append(e), list.index on a module's tuple .. are MtR facts of 06m -/
end
end L2
namespace L2
open PySem PySem.Spec PyProof.Rows
def MtM (X : Cx) (id : String) (r : V → List V → Hp → VK → Prop) : Prop :=
  ∀ (pins : List (Addr × Obj)) (s : Shared) (σ : St) (H : Hp) (x : V) (xs : List V) (v : Value) (us : List Value) (Q : VK), Inv X pins σ H s → RelV x v → Vals xs us → r x xs H Q →
    wpAny (model X.prog X.w) X.A (call (.builtin id) (v :: us)) (EP X pins σ Q) X.xe s
theorem Vals.one : ∀ {x : V} {us : List Value}, Vals [x] us → ∃ u, us = [u] ∧ RelV x u
  | _, _, .cons r .nil => ⟨_, rfl, r⟩
theorem Vals.two : ∀ {x y : V} {us : List Value}, Vals [x, y] us → ∃ u v, us = [u, v] ∧ RelV x u ∧ RelV y v
  | _, _, _, .cons r (.cons q .nil) => ⟨_, _, rfl, r, q⟩
theorem Vals.eraseIdx : ∀ {xs : List V} {us : List Value} (i : Nat), Vals xs us → Vals (xs.eraseIdx i) (us.eraseIdx i)
  | _, _, _, .nil => .nil
  | _, _, 0, .cons _ t => t
  | _, _, i + 1, .cons r t => .cons r (Vals.eraseIdx i t)
theorem Vals.reverse {xs : List V} {us : List Value} (h : Vals xs us) : Vals xs.reverse us.reverse := by
  induction h with
  | nil => exact .nil
  | cons r t ih => rw [List.reverse_cons, List.reverse_cons]; exact Vals.append ih (.cons r .nil)
theorem len_erase {α : Type} : ∀ (l : List α) (i : Nat), (l.eraseIdx i).length ≤ l.length
  | [], _ => Nat.le_refl _
  | _ :: _, 0 => Nat.le_succ _
  | _ :: r, i + 1 => Nat.succ_le_succ (len_erase r i)
section
variable {X : Cx} {pins : List (Addr × Obj)} {σ : St} {H : Hp} {s : Shared} {l b : Addr} {xs ys zs : List V}
theorem Inv.lset {its its' : List Value} {n : Nat} {f : Array Value → Array Value} {t' : Nat} (I : Inv X pins σ H s) (hH : H l = some (.lst xs))
    (e : s.heap.get? l = some { cls := .type "list", data := .seq its.toArray n }) (hf : f its.toArray = its'.toArray) (hv : Vals ys its') (hz : ys.length ≤ sizeLine) :
    Inv X pins σ (upd H l (.lst ys)) { s with heap := s.heap.update l (Obj.mapSeq f), toks := t' } := by
  have q := PySem.IsL.update e f
  rw [hf] at q
  refine I.write (x := l) (e := l) (by rw [hH]; exact trivial) (.inl rfl) (fun b' u hb hu => (Heap.get?_update_other s.heap (Obj.mapSeq f) (Ne.symm hb)).trans hu) ⟨_, q⟩ ?_
  exact ⟨hz, its', _, hv, q⟩
theorem Inv.lnew {its : List Value} {t' : Nat} (I : Inv X pins σ H s) (hv : Vals ys its) (hz : ys.length ≤ sizeLine) :
    Inv X pins σ (upd H s.heap.objs.size (.lst ys)) { s with heap := s.heap.push { cls := .type "list", data := .seq its.toArray }, toks := t' } :=
  I.laid (fun _ _ q => Heap.get?_push_of_some _ q) (Nat.le_refl _) ⟨hz, its, 0, hv, Heap.get?_push_size _ rfl⟩
theorem Inv.fresh (I : Inv X pins σ H s) : H s.heap.objs.size = none := I.hok.fresh (Nat.le_refl _)
theorem Inv.lstM (I : Inv X pins σ H s) (hH : H l = some (.lst xs)) : xs.length ≤ sizeLine ∧ ∃ (its : List Value) (n : Nat), Vals xs its ∧ xs.length = its.length ∧ s.heap.get? l = some { cls := .type "list", data := .seq its.toArray n } := by
  obtain ⟨z, its, n, r, e⟩ := I.hok l _ hH
  exact ⟨z, its, n, r, r.length, e⟩
end
section
variable {X : Cx}
def rAppend : V → List V → Hp → VK → Prop := fun x vs H Q => ∃ l xs y, x = .ref l ∧ vs = [y] ∧ H l = some (.lst xs) ∧ xs.length < sizeLine ∧ Q .non (upd H l (.lst (xs ++ [y])))
theorem mt_append : MtM X "list.append" rAppend := by
  intro pins s σ H x vs v us Q I rx rv h
  obtain ⟨l, xs, y, rfl, rfl, hH, hz, q⟩ := h
  cases rx
  obtain ⟨u, rfl, ru⟩ := rv.one
  obtain ⟨z, its, n, r, hl, e⟩ := I.lstM hH
  refine call_meets F.slot_list_append ⟨_, e, rfl⟩ F.entry_list_append (F.args_list_append_2 _ _) (PySem.list_append l its.toArray n u (by rw [List.size_toArray]; omega)) ⟨e, ?_⟩
  refine ⟨.non, _, I.lset (its' := its ++ [u]) hH e (by simp) (r.append (.cons ru .nil)) ?_, rfl, q⟩
  rw [List.length_append, List.length_singleton]
  omega
def rPopAt : V → List V → Hp → VK → Prop := fun x vs H Q => ∃ l xs i k y, x = .ref l ∧ vs = [.int i] ∧ H l = some (.lst xs) ∧ -(2 ^ 63) ≤ i ∧ i < 2 ^ 63 ∧ seqIndex? i xs.length = some k ∧ xs[k]? = some y ∧ Q y (upd H l (.lst (xs.eraseIdx k)))
theorem mt_popAt : MtM X "list.pop" rPopAt := by
  intro pins s σ H x vs v us Q I rx rv h
  obtain ⟨l, xs, i, k, y, rfl, rfl, hH, h1, h2, hk, hy, q⟩ := h
  cases rx
  obtain ⟨u, rfl, ru⟩ := rv.one
  obtain ⟨t, rfl⟩ := ru
  obtain ⟨z, its, n, r, hl, e⟩ := I.lstM hH
  obtain ⟨w, hw, rw'⟩ := r.get hy
  refine call_meets F.slot_list_pop ⟨_, e, rfl⟩ F.entry_list_pop (F.args_list_pop_2 _ _)
    (MeetsSeq.list_pop_at l its.toArray n i t k w (fitsIndex_both h1 h2) (by rw [List.size_toArray, ← hl]; exact hk) (by rw [← Array.getElem?_toList]; exact hw) (by rw [List.size_toArray]; omega)) ⟨e, ?_⟩
  refine ⟨y, _, I.lset (its' := its.eraseIdx k) hH e ?_ (r.eraseIdx k) ?_, rw', q⟩
  · show its.toArray.eraseIdxIfInBounds k = (its.eraseIdx k).toArray
    rw [List.eraseIdxIfInBounds_toArray]
  · have := len_erase xs k
    omega
end
section
variable {prog : Program} {w : World} {A : Around} {E : Value → Shared → Prop} {s : Shared}
set_option maxRecDepth 100000 in
end
section
variable {X : Cx}
end
end L2
namespace Att
open PySem PySem.W PySem.Calls PyProof.Rows
theorem ints_of_wellAll {P : Params} {h : Heap} : ∀ (ns : List Int) (vs : List Value), WellAll P h vs (ns.map WData.int) → IntsAre vs ns := by
  intro ns
  induction ns with
  | nil =>
    intro vs w
    rw [List.map_nil] at w
    cases w
    exact .nil
  | cons n ns ih =>
    intro vs w
    rw [List.map_cons] at w
    cases w with
    | cons a b =>
      cases a
      exact .cons _ _ (ih _ b)
theorem script_of {l : OpenLaw} {n : Nat} (hn : l.most = some n) {P : Params} {h : Heap} {args : List WData} {vals : List Value}
    (hpre : l.row.toRowW.claim.pre args = true) (hwl : WellAll P h vals args) :
    ∃ a vs ns, vals = [Value.ref a] ∧ args = [WData.list (ns.map WData.int)] ∧ h.get? a = some { cls := .type "list", data := .seq vs.toArray } ∧ IntsAre vs ns ∧ ns.length ≤ n := by
  have hsh : WShape.hasAll [] args [.list .int] = true := (pre_splitW hpre).1
  have hc : l.pre.holds [] { args := args } = true := (pre_splitW hpre).2
  obtain ⟨d, r, rfl, h1, h2⟩ := hasAllW_cons hsh
  obtain rfl := hasAllW_nil h2
  obtain ⟨xs, rfl, h3⟩ := hasW_list h1
  obtain ⟨ns, rfl⟩ := items_int h3
  have hlen : ns.length ≤ n := by
    unfold OpenLaw.pre at hc
    have h4 : (WTm.not (.lt (.lit (.int (n : Int))) (.len (.arg 0)))).holds [] { args := [.list (ns.map .int)] } = true := by
      have h4 := (holds_andW hc).1
      rw [hn] at h4
      exact h4
    have h5 := condW_of h4 (w_not (w_lt w_lit (w_len_list (w_arg rfl))))
    rw [List.length_map] at h5
    refine Nat.le_of_not_lt fun q => ?_
    have q' : (n : Int) < ((ns.length : Nat) : Int) := by omega
    first
      | (rw [decide_eq_true q'] at h5; exact absurd h5 (by decide))
      | (simp at h5; omega)
  cases hwl with
  | cons w1 w2 =>
    cases w2
    cases w1 with
    | list ho hall => exact ⟨_, _, ns, rfl, rfl, ho, ints_of_wellAll ns _ hall, hlen⟩
theorem post_true (l : OpenLaw) (args : List WData) : l.row.toRowW.claim.post args (.bool true) args = true :=
  postW_of (r := l.row.toRowW) (X := (true == true))
    (show WShape.has [] (.bool true) .bool = true by first | rfl | decide | simp [WShape.has, WShape.arms, WShape.armsAll])
    (show (WTm.eq .res (.lit (.bool true))).value [] { args := args, res := some (.bool true), after := args } = some (.bool (true == true)) from w_eq_bool (w_res rfl) w_lit) rfl
theorem attach_call {l : OpenLaw} {n : Nat} {q : Program} {loose : List Str} {XP : (Str → Option Value) → Heap → Prop} {YP : World → Heap → Prop} {d : DefRec}
    (hn : l.most = some n) (hdf : d.params.defaults = [])
    (call : ∀ (w : World) (s₀ s₁ : Shared) (mg mb : Str → Option Value) (fa : Addr) (o : Obj) (pm cd doc : Value) (a : Addr) (vs : List Value) (ns : List Int),
      Ground q loose [] XP w s₀ mg mb s₁.heap → YP w s₁.heap →
      s₁.heap.get? fa = some o → o.data = .func (docDef d.name d.params d.body d.scope pm cd doc) → s₁.heap.CodeRec cd d.name → mg d.name = some (.ref fa) →
      s₁.heap.get? a = some { cls := .type "list", data := .seq vs.toArray } → IntsAre vs ns → ns.length ≤ n → s₁.gens = #[] →
      codeAny (model l.prog w) callerA (.call (.ref fa) ⟨[.ref a], []⟩) (fun r s' => r = .ok (.ret (.bool true)) ∧ OldK s₁.heap s'.heap ∧ s'.os = s₁.os ∧ AllBare s'.gens) s₁) :
    WalkO q loose XP YP l.row.toRowW d [] (fun f vs => PySem.call f vs) := by
  intro w s₀ s₁ mg mb G Y fa o pm cd doc dV kV ho hd hcd hD hmg hg args vals as hpre hlay hrd hwl hlo
  obtain rfl : dV = .none := Dflts.none hD hdf
  obtain rfl : kV = .none := Dflts.noKw hD
  obtain ⟨a, vs, ns, rfl, rfl, hobj, hints, hlen⟩ := script_of hn hpre hwl
  refine enter_call (codeAny_mono (call w s₀ s₁ mg mb fa o pm cd doc a vs ns G Y ho (fd_plain hd) hcd hmg hobj hints hlen hg) fun r s' hq => ?_)
  obtain ⟨rfl, h2, h3, h4⟩ := hq
  exact ⟨.inl ⟨.bool true, .bool true, [], rfl, fun _ => rfl, .bool true, post_true l _, fun _ => ⟨List.Pairwise.nil, fun _ hm => (nomatch hm)⟩⟩, h2, h3, h4⟩
section
variable {prog : Program} {w : World} {A : Around} {E : Value → Shared → Prop} {s : Shared} {K : Frag}
def ledger (h : Heap) (L d : Addr) : List (Addr × Obj) := (List.range h.objs.size).filterMap fun a => if a = L ∨ a = d then none else (h.get? a).map fun o => (a, o)
end
end Att
namespace L2
open PySem PySem.Spec PyProof.Rows
theorem vals_ints : ∀ {vs : List Value} {ns : List Int}, IntsAre vs ns → Vals (ns.map V.int) vs
  | _, _, .nil => .nil
  | _, _, .cons n t h => .cons ⟨t, rfl⟩ (vals_ints h)
def Only (H : Hp) : Prop := ∀ b, H b = none ∨ ∃ o xs, H b = some (.frz o (.lst xs))
theorem law_call {P : Program} {w : World} {K : PySem.W.Frag} {mg mb : Str → Option Value} {CX : CXT} {k : Nat} {fa a : Addr} {fd : FuncData} {x : Str} {sp : Sp} {s₁ : Shared} {vs : List Value} {ns : List Int}
    (KX : K.In s₁.heap) (hns : s₁.heap.Ns mainGlobals mg) (hb : s₁.heap.Ns builtinsNs mb) (hbb : ∀ x : Str, x ≠ "__name__" → mb x = bootBuiltins x) (hlim : s₁.heap.NoLimit) (hg : s₁.gens = #[])
    (ha : s₁.heap.get? a = some { cls := .type "list", data := .seq vs.toArray }) (hi : IntsAre vs ns) (hl : ns.length ≤ sizeLine) (hr : Room k callerA)
    (F : ∀ base : Heap, K.In base → base.Ns mainGlobals mg → FnOk P w K mg base CX k fa fd [x] sp) (hbind : ∀ (s : Shared) (u : Value), BindsTo s fd ⟨[u], []⟩ [(x, u)])
    (hsp : ∀ H : Hp, Only H → SqL K H a (ns.map V.int) → sp [.ref a] H (fun v _ => v = .bl true) fun _ _ _ => False)
    (hCX : ∀ H e s', CX [] H s₁ (fun _ _ _ => False) e s' → False) :
    codeAny (model P w) callerA (.call (.ref fa) ⟨[.ref a], []⟩) (fun r s' => r = .ok (.ret (.bool true)) ∧ OldK s₁.heap s'.heap ∧ s'.os = s₁.os ∧ AllBare s'.gens) s₁ := by
  have rv := vals_ints hi
  have lenV := hi.length
  have core : ∀ H : Hp, Only H → SqL K H a (ns.map V.int) → HOk P w H s₁.heap → (∀ b, H b ≠ none → b = a) → (H a ≠ none → K.lookup a = none) →
      codeAny (model P w) callerA (.call (.ref fa) ⟨[.ref a], []⟩) (fun r s' => r = .ok (.ret (.bool true)) ∧ OldK s₁.heap s'.heap ∧ s'.os = s₁.os ∧ AllBare s'.gens) s₁ := by
    intro H hO hS hok hA hK
    have base_of : ∀ {b : Addr} {o : Obj}, s₁.heap.get? b = some o → H b = none → (hidT s₁.heap H).get? b = some o := fun e n => hidT_get e n
    have noA : ∀ {b : Addr} {o : Obj} {es : Array DictEntry} {ep : Nat}, s₁.heap.get? b = some o → o.data = .dict es ep → H b = none := fun {b o es ep} e d => by
      cases q : H b with
      | none => rfl
      | some u =>
        have e' : b = a := hA b (by rw [q]; simp)
        subst e'
        rw [ha] at e; cases e
        have d' : Data.seq vs.toArray _ = Data.dict es ep := d
        cases d'
    have nsK : ∀ {b : Addr} {m : Str → Option Value}, s₁.heap.Ns b m → (hidT s₁.heap H).Ns b m := fun {b m} ⟨o, es, ep, e, d, r⟩ => ⟨o, es, ep, base_of e (noA e d), d, r⟩
    have hKb : K.In (hidT s₁.heap H) := fun b o e => base_of (KX b o e) (by
      cases q : H b with
      | none => rfl
      | some u =>
        have e' : b = a := hA b (by rw [q]; simp)
        subst e'
        rw [hK (by rw [q]; simp)] at e; cases e)
    have hM : Mod K mg (hidT s₁.heap H) := ⟨hKb, nsK hns, ⟨mb, nsK hb, hbb⟩, let ⟨mc, h1, h2⟩ := hlim; ⟨mc, nsK h1, h2⟩⟩
    have e0 : Env0 P w K mg (hidT s₁.heap H) callerA [] s₁ H := ⟨rfl, hM, fun b o e => of_hidT e, Nat.le_of_eq (hidT_size _ _), trivial, fun b hb => absurd (show b ∈ ([] : List Addr) from hb) (by simp), hok, .of_eq hg⟩
    refine codeAny_mono ((F _ hKb (nsK hns)).run callerA [] s₁ H ⟨[.ref a], []⟩ [.ref a] [.ref a] _ _ hr e0 (hbind s₁ (.ref a)) (.cons rfl .nil) (hsp H hO hS)) fun r s' h => ?_
    cases r with
    | error e => exact (hCX H e s' h).elim
    | ok fl =>
      cases fl with
      | next => exact False.elim h
      | brk => exact False.elim h
      | cont => exact False.elim h
      | ret u =>
        obtain ⟨v, H', os, bare, un, hok', r', q⟩ := h
        have q' : v = .bl true := q
        subst q'
        obtain rfl : u = Value.bool true := r'
        refine ⟨rfl, OldK.of_keep fun b o e => ?_, os, bare⟩
        cases q : H b with
        | none => exact un.keep b o e q (by intro z; exact absurd (show b ∈ ([] : List Addr) from z) (by simp)) (by simp)
        | some u =>
          rcases hO b with z | ⟨ob, xs, z⟩
          · rw [q] at z; cases z
          · have z2 := un.frzs b ob _ z
            obtain ⟨e1, _⟩ := hok b _ z
            obtain ⟨e2, _⟩ := hok' b _ z2
            rw [e] at e1; cases e1
            exact e2
  cases hk : K.lookup a with
  | some o =>
    have e := KX a o hk
    rw [ha] at e
    cases e
    refine core (fun _ => none) (fun _ => .inl rfl) (.inr ⟨_, vs.toArray, _, hk, rfl, rfl, rfl, by rw [List.size_toArray, lenV]; exact hl, by simpa using rv⟩) (fun b u z => by have z' : (none : Option HO) = some u := z; cases z') (fun b z => absurd rfl z) fun z => absurd rfl z
  | none =>
    refine core (fun b => if b = a then some (.frz { cls := .type "list", data := .seq vs.toArray } (.lst (ns.map V.int))) else none) (fun b => ?_) (.inl (.inr ⟨{ cls := .type "list", data := .seq vs.toArray }, if_pos rfl⟩)) (fun b u z => ?_) (fun b z => ?_) fun _ => hk
    · by_cases hb : b = a
      · exact .inr ⟨_, _, if_pos hb⟩
      · exact .inl (if_neg hb)
    · by_cases hb : b = a
      · have z' := (if_pos hb).symm.trans z
        cases z'
        subst hb
        exact ⟨ha, by rw [List.length_map]; exact hl, vs, _, rv, ha⟩
      · have z' := (if_neg hb).symm.trans z
        cases z'
    · by_cases hb : b = a
      · exact hb
      · exact absurd (if_neg hb) z
end L2
namespace L2
open PySem PySem.Spec PyProof.Rows
abbrev KOf {K : PySem.W.Frag} {h : Heap} (_ : K.In h) : PySem.W.Frag := K
theorem walk_of {l : PySem.W.OpenLaw} {n k : Nat} {q : Program} {loose : List Str} {XP : (Str → Option Value) → Heap → Prop} {YP : World → Heap → Prop} {d : DefRec} {K : Params → PySem.W.Frag} {CX : World → CXT} {sp : World → Sp} {x : Str}
    (hn : l.most = some n) (hn2 : n ≤ sizeLine) (hdf : d.params.defaults = []) (hr : Room k callerA)
    (hY : ∀ (w : World) (h : Heap), YP w h → (K w.params).In h)
    (F : ∀ (w : World) (mg : Str → Option Value) (fa : Addr) (h : Heap), (K w.params).In h → h.Ns mainGlobals mg → mg d.name = some (.ref fa) →
      ∃ fd : FuncData, (∀ (s : Shared) (u : Value), BindsTo s fd ⟨[u], []⟩ [(x, u)]) ∧
        ∀ base : Heap, (K w.params).In base → base.Ns mainGlobals mg → FnOk l.prog w (K w.params) mg base (CX w) k fa fd [x] (sp w))
    (hsp : ∀ (w : World) (H : Hp) (a : Addr) (ns : List Int), ns.length ≤ n → Only H → SqL (K w.params) H a (ns.map V.int) → sp w [.ref a] H (fun v _ => v = .bl true) fun _ _ _ => False)
    (hCX : ∀ (w : World) (H : Hp) (s : Shared) (e : Value) (s' : Shared), CX w [] H s (fun _ _ _ => False) e s' → False) :
    PySem.W.WalkO q loose XP YP l.row.toRowW d [] (fun f vs => PySem.call f vs) := by
  refine Att.attach_call hn hdf fun w s₀ s₁ mg mb fa o pm cd doc a vs ns G Y ho hd hcd hmg hobj hints hlen hg => ?_
  have KX := hY w _ Y
  obtain ⟨fd, hb, hF⟩ := F w mg fa _ KX G.T.g hmg
  exact law_call KX G.T.g G.T.b G.T.builtins G.T.nolimit hg hobj hints (Nat.le_trans hlen hn2) hr hF hb (fun H hO hS => hsp w H a ns hlen hO hS) fun H e s' => hCX w H s₁ e s'
theorem walk_ofK {l : PySem.W.OpenLaw} {n k : Nat} {q : Program} {loose : List Str} {XP : (Str → Option Value) → Heap → Prop} {YP : World → Heap → Prop} {d : DefRec} {K : Params → PySem.W.Frag} {CX : CXT} {sp : PySem.W.Frag → Sp} {x : Str}
    (hn : l.most = some n) (hn2 : n ≤ sizeLine) (hdf : d.params.defaults = []) (hr : Room k callerA)
    (hY : ∀ (w : World) (h : Heap), YP w h → (K w.params).In h)
    (F : ∀ (w : World) (mg : Str → Option Value) (fa : Addr) (h : Heap), (K w.params).In h → h.Ns mainGlobals mg → mg d.name = some (.ref fa) →
      ∃ fd : FuncData, (∀ (s : Shared) (u : Value), BindsTo s fd ⟨[u], []⟩ [(x, u)]) ∧
        ∀ base : Heap, (K w.params).In base → base.Ns mainGlobals mg → FnOk l.prog w (K w.params) mg base CX k fa fd [x] (sp (K w.params)))
    (hsp : ∀ (K : PySem.W.Frag) (H : Hp) (a : Addr) (ns : List Int), ns.length ≤ n → Only H → SqL K H a (ns.map V.int) → sp K [.ref a] H (fun v _ => v = .bl true) fun _ _ _ => False)
    (hCX : ∀ (H : Hp) (s : Shared) (e : Value) (s' : Shared), CX [] H s (fun _ _ _ => False) e s' → False) :
    PySem.W.WalkO q loose XP YP l.row.toRowW d [] (fun f vs => PySem.call f vs) :=
  walk_of (K := K) (CX := fun _ => CX) (sp := fun w => sp (K w.params)) hn hn2 hdf hr hY F (fun w H a ns h1 h2 h3 => hsp (K w.params) H a ns h1 h2 h3) fun _ H s e s' => hCX H s e s'
end L2
/- THE LAST THEOREM (shape; LID, My.* are yours):
   My.Adr: a structure of the addresses that your layer names (classes, functions); My.Txt K t: a structure (Prop) of the equations over K;
   My.txt_mk : {K} {implicit addresses ..} (e1 : nsIn K mainGlobals "law" = some (some (.ref f))) (e2 : K.lookup f = some ⟨oc, od, .func (fnOf "law" "law" params body scope dV kV doc pm an cdv ct), sl⟩) (e3 : codeIn K cdv "law" = true) .. : ∃ t, My.Txt K t
set_option maxRecDepth 100000 in
set_option maxHeartbeats 0 in
theorem PySem.Challenge.cw_LID_holds : PySem.Challenge.rw_LID.Holds := by
  w_on; o_law; k_head; (case hw => w_witness2)
  k_fill
  refine L2.walk_of (l := PySem.Challenge.rw_LID) (n := 63) (k := 40) (x := "script") (CX := fun w => ..) (sp := fun _ => My.sp_law) rfl (by decide) rfl ⟨rfl, by decide, by decide⟩ (fun w h Y => PySem.W.kIn_of Y) ?F ?S ?C
  case F =>
    intro w mg fa h KX G hmg
    have T : ∃ t, My.Txt (L2.KOf KX) t := by
      dsimp only [L2.KOf]                          -- K must stand as «<heap const> w.params» for k_is
      refine' My.txt_mk ?e1 ?e2 ?e3 ..
      (case e1 => PySem.W.k_is)                    -- in the order: a name -> its address -> its object -> its parts
      (case e2 => PySem.W.k_is)
      ..
    obtain ⟨t, T⟩ := T
    have e0 := hmg.symm.trans (PySem.W.mg_of KX G T.law)
    cases e0                                       -- fa is the law's own address
    exact ⟨_, fun s u => .of_eq rfl, fun base kb nb => My.law_fn T kb nb⟩     -- if «.of_eq rfl» comes too early: refine' ⟨_, ?b, fun base kb nb => My.law_fn T kb nb⟩; exact fun s u => .of_eq rfl
  case S => exact fun w H a ns hl hO hS => ..
  case C => exact ..
(the tactic k_is has no namespace: write k_is) -/
namespace L2
open PySem PySem.Spec PyProof.Rows
def defArgs (s : Stmt) : Arguments := match s with
  | .FunctionDef _ a _ _ _ _ _ _ _ _ => a
  | _ => { posonlyargs := [], args := [], vararg := none, kwonlyargs := [], kw_defaults := [], kwarg := none, defaults := [] }
def defBody (s : Stmt) : List Stmt := match s with
  | .FunctionDef _ _ b _ _ _ _ _ _ _ => b
  | _ => []
def defScope (s : Stmt) : Scope := match s with
  | .FunctionDef _ _ _ _ _ _ sc _ _ _ => sc
  | _ => { kind := .function, names := [], isGenerator := false, isCoroutine := false }
abbrev CX0 : CXT := fun _ _ _ _ _ _ => False
abbrev E0 : XK := fun _ _ _ => False
theorem pass0 {X : Cx} : Passes CX0 X E0 := fun _ _ _ _ _ _ _ h => h.elim
structure Fun (K : PySem.W.Frag) (x qual : Str) (st : Stmt) (f : Addr) (fd : FuncData) : Prop where
  ex : ∃ (oc : Value) (od : Option Addr) (kV doc pm : Value) (an : Option Addr) (cdv ct : Value) (osl : Array (Option Value)),
    fd = PySem.W.fnOf x qual (defArgs st) (defBody st) (defScope st) .none kV doc pm an cdv ct ∧ K.lookup f = some ⟨oc, od, .func fd, osl⟩ ∧ PySem.W.codeIn K cdv qual = true
  kp : PySem.W.keepIn K (.ref f) = true
section
variable {P : Program} {w : World} {K : PySem.W.Frag} {mg : Str → Option Value} {base : Heap}
theorem Fun.ok {x qual : Str} {st : Stmt} {f : Addr} {fd : FuncData} {N ps : List Str} {k : Nat} {sp : Sp} (F : Fun K x qual st f fd) (S : FnScope N ps (defScope st)) (len : ∀ vs H Q E, sp vs H Q E → vs.length = ps.length)
    (hbody : ∀ (cdv : Value) (A : Around) (outer : List Env) (s : Shared) (H : Hp) (vs : List V) (Q : VK) (E : XK), Room k (A.deeper (envOfC qual (defScope st) s.heap.objs.size f cdv)) → sp vs H Q E →
      ∃ t, PSs (cxOf CX0 P w K mg base N qual (defScope st) f cdv A outer s H E).nox (defBody st) t ∧ t { nx := fun _ H' => Q .non H', rt := Q } (start N vs) H) : FnOk P w K mg base CX0 (k + 1) f fd ps sp := by
  obtain ⟨oc, od, kV, doc, pm, an, cdv, ct, osl, rfl, lk, hcd⟩ := F.ex
  refine fn_of lk hcd S len fun A outer s H vs Q E hr hsp => ?_
  obtain ⟨t, h, q⟩ := hbody cdv A outer s H vs Q E hr hsp
  exact ⟨t, h.nox, q⟩
theorem Fun.binds {x qual : Str} {st : Stmt} {f : Addr} {fd : FuncData} {ps : List Str} (F : Fun K x qual st f fd)
    (h : ∀ (kV doc pm : Value) (an : Option Addr) (cdv ct : Value) (us : List Value), us.length = ps.length → bindArgs (PySem.W.fnOf x qual (defArgs st) (defBody st) (defScope st) .none kV doc pm an cdv ct) ⟨us, []⟩ = pure (ps.zip us)) : Binds K fd ps [] := by
  obtain ⟨oc, od, kV, doc, pm, an, cdv, ct, osl, rfl, lk, hcd⟩ := F.ex
  exact .all (h kV doc pm an cdv ct)
theorem fun_mk {x qual : Str} {st : Stmt} {f : Addr} {oc : Value} {od an : Option Addr} {osl : Array (Option Value)} {kV doc pm cdv ct : Value} (l : K.lookup f = some ⟨oc, od, .func (PySem.W.fnOf x qual (defArgs st) (defBody st) (defScope st) .none kV doc pm an cdv ct), osl⟩)
    (c : PySem.W.codeIn K cdv qual = true) (k : PySem.W.keepIn K (.ref f) = true) : Fun K x qual st f (PySem.W.fnOf x qual (defArgs st) (defBody st) (defScope st) .none kV doc pm an cdv ct) := ⟨⟨oc, od, kV, doc, pm, an, cdv, ct, osl, rfl, l, c⟩, k⟩
end
section
variable {X : Cx}
theorem pv (i : Nat) {x : Str} {pos : Pos} (hN : X.N[i]? = some x := by rfl) (hv : Vis X.env.scope x := by first | exact Or.inl rfl | exact Or.inr (Or.inl rfl) | exact Or.inr (Or.inr rfl)) (hd : (x == ("__debug__" : Str)) = false := by decide)
    (hcd : (x == ("__classdict__" : Str)) = false := by decide) : PE X (.Name x pos) (tVar i) := pe_var hN hv hd hcd
end
def Same (H H' : Hp) : Prop := ∀ b o, H b = some o → H' b = some o
theorem Same.refl (H : Hp) : Same H H := fun _ _ h => h
theorem Same.trans {H H1 H2 : Hp} (a : Same H H1) (b : Same H1 H2) : Same H H2 := fun c o h => b c o (a c o h)
theorem Same.free {H H' : Hp} (e : Same H H') {l : Addr} (h : H' l = Option.none) : H l = Option.none := by
  cases q : H l with
  | none => rfl
  | some o =>
    rw [e l o q] at h
    cases h
theorem Same.seq {K : PySem.W.Frag} {H H' : Hp} {a : Addr} {xs : List V} (e : Same H H') (h : SqL K H a xs) : SqL K H' a xs := by
  rcases h with (h | ⟨o, h⟩) | h
  · exact .inl (.inl (e _ _ h))
  · exact .inl (.inr ⟨o, e _ _ h⟩)
  · exact .inr h
end L2
set_option maxHeartbeats 4000000
namespace L2
open PySem PySem.Spec PyProof.Rows
def cxComp (X : Cx) (N' : List Str) (scope : Scope) (cl : List (Str × Addr)) (fp : List Addr) (pins : List (Addr × Obj)) (s : Shared) (H : Hp) : Cx where
  prog := X.prog
  w := X.w
  K := X.K
  mg := X.mg
  base := X.base
  A := X.A
  N := N'
  s₀ := s
  H₀ := H
  env := compEnvC scope cl s.heap.objs.size X.env
  outer := X.stack
  stack := X.stack
  ex := fp
  fn := fun _ => false
  calm := X.calm
  pn := X.pn ++ pins
  xe := fun _ _ => False
def clF (env : Env) : List (Str × NameKind) → List (Str × Addr) → List (Str × Addr)
  | [], acc => acc
  | (n, k) :: r, acc => if (k == NameKind.free) = true then clF env r ((n, (env.cells.lookup n).getD 0) :: acc) else clF env r acc
theorem mem_of_lookup {β : Type} : ∀ {l : List (Str × β)} {x : Str} {k : β}, l.lookup x = some k → (x, k) ∈ l
  | [], _, _, h => by simp at h
  | (n, j) :: r, x, k, h => by
    rw [List.lookup_cons] at h
    cases hx : x == n with
    | true =>
      rw [hx] at h
      have e : x = n := eq_of_beq hx
      subst e
      have e2 : j = k := by simpa using h
      subst e2
      exact List.mem_cons_self
    | false =>
      rw [hx] at h
      exact List.mem_cons_of_mem _ (mem_of_lookup (by simpa using h))
theorem clF_sub {env : Env} {x : Str} {c : Addr} : ∀ (l : List (Str × NameKind)) (acc : List (Str × Addr)), (∀ y ∈ l, y.2 = .free → ∃ c, env.cells.lookup y.1 = some c) →
    (clF env l acc).lookup x = some c → acc.lookup x = some c ∨ env.cells.lookup x = some c
  | [], acc, _, h => .inl h
  | (n, k) :: r, acc, hf, h => by
    have hr : ∀ y ∈ r, y.2 = .free → ∃ c, env.cells.lookup y.1 = some c := fun y hy => hf y (List.mem_cons_of_mem _ hy)
    unfold clF at h
    by_cases hk : (k == NameKind.free) = true
    · rw [if_pos hk] at h
      rcases clF_sub r _ hr h with h1 | h1
      · rw [List.lookup_cons] at h1
        cases hx : x == n with
        | true =>
          rw [hx] at h1
          have e : x = n := eq_of_beq hx
          subst e
          have hk' : k = .free := eq_of_beq hk
          obtain ⟨c', hc'⟩ := hf (x, k) List.mem_cons_self hk'
          have hc2 : env.cells.lookup x = some c' := hc'
          rw [hc2] at h1
          right
          rw [hc2]
          simpa using h1
        | false =>
          rw [hx] at h1
          exact .inl (by simpa using h1)
      · exact .inr h1
    · rw [if_neg hk] at h
      exact clF_sub r _ hr h
theorem clF_has {env : Env} {x : Str} : ∀ (l : List (Str × NameKind)) (acc : List (Str × Addr)), ((x, NameKind.free) ∈ l ∨ ∃ c, acc.lookup x = some c) → ∃ c, (clF env l acc).lookup x = some c
  | [], acc, h => by
    rcases h with h | h
    · cases h
    · exact h
  | (n, k) :: r, acc, h => by
    unfold clF
    by_cases hk : (k == NameKind.free) = true
    · rw [if_pos hk]
      refine clF_has r _ ?_
      rcases h with h | ⟨c, h⟩
      · rcases List.mem_cons.mp h with e | e
        · injection e with e1 e2
          right
          refine ⟨(env.cells.lookup n).getD 0, ?_⟩
          rw [List.lookup_cons, e1]
          simp
        · exact .inl e
      · right
        rw [List.lookup_cons]
        cases hx : x == n with
        | true => exact ⟨_, rfl⟩
        | false => exact ⟨c, h⟩
    · rw [if_neg hk]
      refine clF_has r _ ?_
      rcases h with h | h
      · rcases List.mem_cons.mp h with e | e
        · injection e with e1 e2
          rw [← e2] at hk
          exact absurd (by rfl) hk
        · exact .inl e
      · exact .inr h
structure ClOk (X : Cx) (scope : Scope) (cl : List (Str × Addr)) : Prop where
  clos : closureFor scope X.env = pure cl
  sub : ∀ x c, cl.lookup x = some c → X.env.cells.lookup x = some c
  has : ∀ x, ((relabel scope X.env).names.lookup x = some .cell ∨ (relabel scope X.env).names.lookup x = some .free) → ∃ c, cl.lookup x = some c
  kind : scope.kind = .function
  cell : ∀ y ∈ scope.names, y.2 ≠ .cell
  names : ∀ x ∈ scope.names, x.2 = .local → scope.names.lookup x.1 = some .local
theorem closureFor_clF {env : Env} {scope : Scope} (hf : ∀ y ∈ scope.names, y.2 = .free → ∃ c, env.cells.lookup y.1 = some c) : closureFor scope env = pure (clF env scope.names []) := by
  unfold closureFor
  have key : ∀ (l : List (Str × NameKind)) (acc : List (Str × Addr)), (∀ y ∈ l, y.2 = .free → ∃ c, env.cells.lookup y.1 = some c) →
      (forIn l acc (fun (x : Str × NameKind) (r : List (Str × Addr)) => (if (x.2 == NameKind.free) = true then do let a ← cellOf env x.1; pure (ForInStep.yield ((x.1, a) :: r)) else pure (ForInStep.yield r) : Sem (ForInStep (List (Str × Addr)))))) = pure (clF env l acc) := by
    intro l
    induction l with
    | nil => intro acc _; rfl
    | cons p r ih =>
      intro acc hf
      obtain ⟨n, k⟩ := p
      have hr : ∀ y ∈ r, y.2 = .free → ∃ c, env.cells.lookup y.1 = some c := fun y hy => hf y (List.mem_cons_of_mem _ hy)
      rw [List.forIn_cons]
      unfold clF
      by_cases hk : (k == NameKind.free) = true
      · obtain ⟨c, hc⟩ := hf (n, k) List.mem_cons_self (eq_of_beq hk)
        have hc' : env.cells.lookup n = some c := hc
        have hcell : cellOf env n = pure c := by unfold cellOf; rw [hc']
        simp only [hk, if_true, hcell, hc', Option.getD_some]
        show (forIn r ((n, c) :: acc) _ : Sem _) = _
        exact ih _ hr
      · simp only [hk, if_false]
        show (forIn r acc _ : Sem _) = _
        exact ih _ hr
  have := key scope.names [] hf
  simpa using this
theorem clok_mk {X : Cx} {scope : Scope} (ok : X.Ok) (kind : scope.kind = .function) (cell : ∀ y ∈ scope.names, y.2 ≠ .cell)
    (names : ∀ x ∈ scope.names, x.2 = .local → scope.names.lookup x.1 = some .local)
    (free : ∀ y ∈ scope.names, y.2 = .free → X.env.kindOf y.1 = some .cell ∨ X.env.kindOf y.1 = some .free) : ClOk X scope (clF X.env scope.names []) := by
  have hf : ∀ y ∈ scope.names, y.2 = .free → ∃ c, X.env.cells.lookup y.1 = some c := fun y hy e => ok.has y.1 (free y hy e)
  refine ⟨closureFor_clF hf, fun x c h => ?_, fun x h => ?_, kind, cell, names⟩
  · rcases clF_sub scope.names [] hf h with h1 | h1
    · simp at h1
    · exact h1
  · refine clF_has scope.names [] (.inl ?_)
    have hm : ∃ k, (x, k) ∈ (relabel scope X.env).names ∧ (k = .cell ∨ k = .free) := by
      rcases h with h | h
      · exact ⟨_, mem_of_lookup h, .inl rfl⟩
      · exact ⟨_, mem_of_lookup h, .inr rfl⟩
    obtain ⟨k, hm, hk⟩ := hm
    obtain ⟨⟨n, j⟩, hn, e⟩ := List.mem_map.mp hm
    have e' : (if (j == NameKind.free && X.env.scope.kind == .function && X.env.kindOf n == some .cell) = true then (n, NameKind.cell) else (n, j)) = (x, k) := e
    by_cases hc : (j == NameKind.free && X.env.scope.kind == .function && X.env.kindOf n == some .cell) = true
    · rw [if_pos hc] at e'
      injection e' with e1 e2
      have hj : j = .free := by
        rw [Bool.and_eq_true, Bool.and_eq_true] at hc
        exact eq_of_beq hc.1.1
      rw [← e1, ← hj]
      exact hn
    · rw [if_neg hc] at e'
      injection e' with e1 e2
      rcases hk with hk | hk
      · exact absurd (e2.trans hk) (cell (n, j) hn)
      · rw [← e1, ← hk, ← e2]
        exact hn
def FvOk (X : Cx) (scope : Scope) : List (Nat × Str) → Prop
  | [] => True
  | p :: r => (X.N[p.1]? = some p.2 ∧ (X.env.scope.names.lookup p.2 = some .cell ∨ X.env.scope.names.lookup p.2 = some .free) ∧
      ((relabel scope X.env).names.lookup p.2 = some .cell ∨ (relabel scope X.env).names.lookup p.2 = some .free)) ∧ FvOk X scope r
theorem FvOk.mem {X : Cx} {scope : Scope} : ∀ {fv : List (Nat × Str)}, FvOk X scope fv → ∀ p ∈ fv, X.N[p.1]? = some p.2 ∧ (X.env.scope.names.lookup p.2 = some .cell ∨ X.env.scope.names.lookup p.2 = some .free) ∧
      ((relabel scope X.env).names.lookup p.2 = some .cell ∨ (relabel scope X.env).names.lookup p.2 = some .free)
  | [], _, p, hp => by cases hp
  | q :: r, h, p, hp => by
    rcases List.mem_cons.mp hp with e | e
    · rw [e]; exact h.1
    · exact FvOk.mem h.2 p e
def compSt (n : Nat) (fv : List (Nat × Str)) (σ : St) : St := List.replicate n none ++ fv.map fun p => (σ[p.1]?).join
theorem compSt_len (n : Nat) (fv : List (Nat × Str)) (σ : St) : (compSt n fv σ).length = n + fv.length := by
  simp [compSt]
theorem compSt_get {n : Nat} {fv : List (Nat × Str)} {σ : St} {i : Nat} {v : V} (h : (compSt n fv σ)[i]? = some (some v)) : n ≤ i ∧ ∃ p, fv[i - n]? = some p ∧ σ[p.1]? = some (some v) := by
  unfold compSt at h
  by_cases hi : i < n
  · rw [List.getElem?_append_left (by simpa using hi), List.getElem?_replicate, if_pos hi] at h
    cases h
  · have hn : n ≤ i := by omega
    rw [List.getElem?_append_right (by simpa using hn), List.length_replicate, List.getElem?_map] at h
    refine ⟨hn, ?_⟩
    cases e : fv[i - n]? with
    | none => rw [e] at h; cases h
    | some p =>
      rw [e] at h
      refine ⟨p, rfl, ?_⟩
      have h' : (σ[p.1]?).join = some v := Option.some.inj h
      cases e2 : σ[p.1]? with
      | none => rw [e2] at h'; cases h'
      | some o =>
        rw [e2] at h'
        have h2 : o = some v := h'
        rw [h2]
section
variable {X : Cx} {pins : List (Addr × Obj)} {σ : St} {H : Hp} {s : Shared} {fp : List Addr} {scope : Scope} {cl : List (Str × Addr)} {own : List Str} {fv : List (Nat × Str)}
theorem comp_ok (I : Inv X pins σ H s) (ck : ClOk X scope cl) (hf : ∀ b ∈ fp, FpOk X pins H b) (hlt : ∀ b ∈ fp, b < s.heap.objs.size) :
    (cxComp X (own ++ fv.map (·.2)) scope cl fp pins s H).Ok where
  mod := I.ok.mod
  kind := ck.kind
  glob := I.ok.glob
  blt := I.ok.blt
  above := Nat.le_refl _
  inj := fun x y c hx hy => I.ok.inj x y c (ck.sub x c hx) (ck.sub y c hy)
  has := fun x h => ck.has x h
  cab := fun x c h _ => Bool.noConfusion h
  hd := I.ok.hd
  frames := I.ok.frames
  stk := .inl rfl
  exf := fun b hb => ⟨Nat.ne_of_lt (hlt b hb), fun x c h => (hf b hb).2.2.2.2.1 x c (ck.sub x c h)⟩
  bs := I.bs
  bsz := Nat.le_trans I.ok.bsz I.sz
  noex := fun b o e hb => by
    rcases (hf b hb).2.2.2.1 with h | h
    · exact I.ok.noex b o e h
    · exact absurd (Nat.lt_of_lt_of_le (Heap.lt_size e) I.ok.bsz) (Nat.not_lt.mpr h)
  exfs := fun b hb h => by
    rcases List.mem_cons.mp (I.stkSub b h) with e | e
    · exact (hf b hb).2.1 e
    · exact (hf b hb).2.2.1 e
  funs := I.stack
  frf := I.stkFree
theorem comp_start (I : Inv X pins σ H s) (ck : ClOk X scope cl) (fo : FvOk X scope fv) (hf : ∀ b ∈ fp, FpOk X pins H b) (hlt : ∀ b ∈ fp, b < s.heap.objs.size) {h' : Heap} {tk : Nat} {m : Str → Option Value}
    (hns : h'.Ns s.heap.objs.size m) (keep : ∀ b o, s.heap.get? b = some o → h'.get? b = some o) :
    Inv (cxComp X (own ++ fv.map (·.2)) scope cl fp pins s H) [] (compSt own.length fv σ) H { s with heap := h', toks := tk } where
  ok := comp_ok I ck hf hlt
  os := rfl
  bare := I.bare
  base := Un.kept keep
  loc := by
    refine ⟨m, hns, fun i x v hi hv _ => ?_⟩
    obtain ⟨hn, p, hp, hσ⟩ := compSt_get hv
    have hx : x = p.2 := by
      have hi' : (own ++ fv.map (·.2))[i]? = some x := hi
      rw [List.getElem?_append_right hn, List.getElem?_map, hp] at hi'
      exact (Option.some.inj hi').symm
    subst hx
    obtain ⟨hN, hk, hk'⟩ := fo.mem p (List.mem_of_getElem? hp)
    obtain ⟨m0, _, hl⟩ := I.loc
    obtain ⟨u, r, lk⟩ := hl p.1 p.2 v hN hσ (.inr hk)
    refine ⟨u, r, .inr ⟨hk', ?_⟩⟩
    rcases lk with ⟨lk, _⟩ | ⟨_, c, hc, ic⟩
    · have lk' : X.env.scope.names.lookup p.2 = some .local := lk
      rcases hk with hk | hk
      · rw [hk] at lk'; cases lk'
      · rw [hk] at lk'; cases lk'
    · obtain ⟨c', hc'⟩ := ck.has p.2 hk'
      have e := ck.sub _ _ hc'
      rw [hc] at e
      cases e
      obtain ⟨o, e1, e2⟩ := ic
      exact ⟨c, hc', o, keep _ _ e1, e2⟩
  cell := fun x c h => by
    obtain ⟨v, o, e1, e2⟩ := I.cell x c (ck.sub x c h)
    exact ⟨v, o, keep _ _ e1, e2⟩
  free := I.hok.fresh (Nat.le_refl _)
  freeC := fun x c h => I.freeC x c (ck.sub x c h)
  pin := fun p hp => by
    have hp' : p ∈ X.pn ++ pins := by
      have := List.mem_append.mp hp
      rcases this with h | h
      · exact h
      · cases h
    obtain ⟨e, n, nl, nf, nc⟩ := I.pin p hp'
    refine ⟨keep _ _ e, n, Nat.ne_of_lt (Heap.lt_size e), fun h => ?_, nc⟩
    rcases List.mem_cons.mp (I.stkSub _ h) with z | z
    · exact nl z
    · exact nf z
  hok := I.hok.kept keep
  len := by
    rw [compSt_len]
    show _ = (own ++ fv.map (·.2)).length
    simp
theorem comp_exit (I : Inv X pins σ H s) (hf : ∀ b ∈ fp, FpOk X pins H b) {N' : List Str} {σ' : St} {H' : Hp} {s' : Shared}
    (I' : Inv (cxComp X N' scope cl fp pins s H) [] σ' H' s') : Inv X pins σ H' s' :=
  I.call' (ch := fp) I'.os I'.base I'.hok I'.bare fun b hb => ⟨(hf b hb).2.2.2.1, (hf b hb).2.1, (hf b hb).2.2.2.2.1, (hf b hb).2.2.2.2.2⟩
theorem comp_ns (I : Inv X pins σ H s) {N' : List Str} {σ' : St} {H' : Hp} {s' : Shared}
    (I' : Inv (cxComp X N' scope cl fp pins s H) [] σ' H' s') : (∃ m, s'.heap.Ns s.heap.objs.size m) ∧ H' s.heap.objs.size = none := by
  obtain ⟨m, h, _⟩ := I'.loc
  exact ⟨⟨m, h⟩, I'.free⟩
theorem comp_forget (I : Inv X pins σ H s) {pins1 : List (Addr × Obj)} {σ1 : St} {H1 : Hp} {s1 : Shared} (I1 : Inv X pins1 σ1 H1 s1) (hp : ∀ p ∈ pins1, p ∈ pins) (hn : H1 s.heap.objs.size = none) {h' : Heap}
    (sb : Heap.SameBut s.heap.objs.size s1.heap h') : Inv X pins1 σ1 H1 { s1 with heap := h' } := by
  refine I1.turned (t' := s1.toks) (it := s.heap.objs.size) (fun b o hb e => sb.extBut b o hb e) hn (Ne.symm (Nat.ne_of_lt I.lt)) (.inr I.sz) (fun x c h => ?_) fun p hp' => ?_
  · obtain ⟨v, o, e1, _⟩ := I.cell x c h
    exact Nat.ne_of_lt (Heap.lt_size e1)
  · have hp2 : p ∈ X.pn ++ pins := by
      rcases List.mem_append.mp hp' with z | z
      · exact List.mem_append_left _ z
      · exact List.mem_append_right _ (hp p z)
    exact Nat.ne_of_lt (Heap.lt_size (I.pin p hp2).1)
end
section
variable {prog : Program} {w : World} {A : Around} {R : Result → Shared → Prop} {s : Shared}
theorem codeAny_compLoop_go {elt target iter : Expr} {ifs : List Expr} {scope : Scope} {pos : Pos} {it acc : Value} {env : Env} (I : Nat → Shared → Prop)
    (turn : ∀ n s, I n s → wpAny (model prog w) A (pyNext it) (fun r s₁ => match r with
      | none => R (.ok .next) s₁
      | some v => wpAny (model prog w) A (letOwnedTupleGo target it v) (fun _ s₀ => wpAny (model prog w) A (assign target env v) (fun _ s₂ =>
          wpAny (model prog w) A (forIn ifs true fun c r => if r = true then do let ok ← isTrue c env (eval c env); pure (ForInStep.yield ok) else pure (ForInStep.yield r)) (fun ok s₃ =>
            if ok = true then wpAny (model prog w) A (eval elt env) (fun x s₄ =>
              wpAny (model prog w) A (call (.builtin "list.append") [acc, x]) (fun _ s₅ => ∃ m, m < n ∧ I m s₅) (notedBy (model prog w) A env fun e s' => R (.error e) s') s₄) (notedBy (model prog w) A env fun e s' => R (.error e) s') s₃
            else ∃ m, m < n ∧ I m s₃) (notedBy (model prog w) A env fun e s' => R (.error e) s') s₂) (notedBy (model prog w) A env fun e s' => R (.error e) s') s₀) (notedBy (model prog w) A env fun e s' => R (.error e) s') s₁) (notedBy (model prog w) A env fun e s' => R (.error e) s') s)
    (n : Nat) (h : I n s) :
    codeAny (model prog w) A (.compLoop (.ListComp elt [⟨target, iter, ifs, 0⟩] scope pos) 0 it acc env) R s := by
  refine codeAny_loop rfl I (fun n s hI => ?_) n h
  show wpAny _ A ((compTurn (.ListComp elt [⟨target, iter, ifs, 0⟩] scope pos) 0 it acc env).onRaise (fun x => do noteFrame x env; theTreesLotGoes x)) _ _ s
  refine wpAny_noted ?_
  rw [compTurn_list]
  refine wpAny_bind (wpAny_standAt (wpAny_bind (wpAny_mono (turn n s hI) (fun r s₁ h₁ => ?_) fun _ _ h' => h')))
  cases r with
  | none => exact wpAny_pure h₁
  | some v =>
    refine wpAny_bind (wpAny_mono h₁ (fun _ s₀ h₀ => ?_) fun _ _ h' => h')
    refine wpAny_bind (wpAny_mono h₀ (fun _ s₂ h₂ => wpAny_bind (wpAny_mono h₂ (fun ok s₃ h₃ => ?_) fun _ _ h' => h')) fun _ _ h' => h')
    cases ok with
    | false => exact wpAny_pure ⟨rfl, h₃⟩
    | true =>
      exact wpAny_bind (wpAny_bind (wpAny_mono h₃ (fun x s₄ h₄ => wpAny_bind (wpAny_mono h₄ (fun _ s₅ h₅ => wpAny_pure (wpAny_pure ⟨rfl, h₅⟩)) fun _ _ h' => h')) fun _ _ h' => h'))
end
def PTs (X : Cx) (ifs : List Expr) (t : TT) : Prop :=
  ∀ (pins : List (Addr × Obj)) (s : Shared) (σ : St) (H : Hp) (Q : Bool → Hp → Prop), Inv X pins σ H s → t σ H Q →
    wpAny (model X.prog X.w) X.A (forIn ifs true fun c r => if r = true then do let ok ← isTrue c X.env (eval c X.env); pure (ForInStep.yield ok) else pure (ForInStep.yield r)) (TP X pins σ Q) X.xe s
def tTrue : TT := fun _ H Q => Q true H
theorem pts_nil {X : Cx} : PTs X [] tTrue := fun pins s σ H Q I h => wpAny_tests_nil ⟨H, I, h⟩
def GKeep (n : Nat) (g : TG) : Prop := ∀ v σ H Q, g v σ H Q → g v σ H fun σ' H' => (σ'.length = σ.length ∧ ∀ i, n ≤ i → σ'[i]? = σ[i]?) ∧ Q σ' H'
theorem gk_name {n i : Nat} (h : i < n) : GKeep n (gName i) := fun v σ H Q q => ⟨⟨by simp, fun j hj => by rw [List.getElem?_set_ne (by omega)]⟩, q⟩
def CompW (J : It) (g : TG) (tc : TT) (te : TE) (σ0 : St) (D : Addr) (Q : VK) (H : Hp) : Prop :=
  ∃ W : Nat → Nat → List V → Hp → Prop, (∃ m, W 0 m [] H) ∧ ∀ i m ys H, W i m ys H → H D = some (.lst ys) ∧
    ((J.stop i H ∧ Q (.ref D) H) ∨ (J.go i H ∧ ∃ N : List V → Hp → Prop, (∀ ys' H', N ys' H' → ∃ m', m' < m ∧ W (i + 1) m' ys' H') ∧ ∀ x H', J.yld i H x H' → g x σ0 H' fun σ2 H2 => tc σ2 H2 fun b H3 =>
      if b = true then te σ2 H3 fun v H4 => H4 D = some (.lst ys) ∧ ys.length < sizeLine ∧ N (ys ++ [v]) (upd H4 D (.lst (ys ++ [v])))
      else N ys H3))
def tComp (wi : TI) (g : TG) (tc : TT) (te : TE) (n : Nat) (fv : List (Nat × Str)) : TE := fun σ H Q => wi σ H fun J H1 => ∀ D, H1 D = none → CompW J g tc te (compSt n fv σ) D Q (upd H1 D (.lst []))
section
variable {X : Cx} {tg elt iter : Expr} {ifs : List Expr} {scope : Scope} {own : List Str} {fv : List (Nat × Str)} {wi : TI} {g : TG} {tc : TT} {te : TE}
theorem comp_run {pos pos' : Pos} {use : Option (Value → Sem Unit)} {pins : List (Addr × Obj)} {s : Shared} {σ : St} {H : Hp} {Q : Value → Shared → Prop} {R : VK} {cl : List (Str × Addr)} (hc : X.calm = true) (hi : PI X tg iter wi) (I : Inv X pins σ H s)
    (ck : ClOk X scope cl) (fo : FvOk X scope fv) (gk : GKeep own.length g)
    (bg : ∀ fp pins s H, PG (cxComp X (own ++ fv.map (·.2)) scope cl fp pins s H) tg g)
    (bt : ∀ fp pins s H, PTs (cxComp X (own ++ fv.map (·.2)) scope cl fp pins s H) ifs tc)
    (be : ∀ fp pins s H, PE (cxComp X (own ++ fv.map (·.2)) scope cl fp pins s H) elt te)
    (hs : ∀ x, foldedSetIterable iter X.env x = pure x) (h : tComp wi g tc te own.length fv σ H R)
    (fin : ∀ D C H' s', Inv X pins σ H' s' → R (.ref D) H' → (∃ m, s'.heap.Ns C m) → H' C = none →
      (∀ pins1 σ1 H1 s1 h', Inv X pins1 σ1 H1 s1 → (∀ p ∈ pins1, p ∈ pins) → H1 C = none → Heap.SameBut C s1.heap h' → Inv X pins1 σ1 H1 { s1 with heap := h' }) → (C ≠ X.env.locals ∧ C ∉ X.fs) →
      compPost (model X.prog X.w) X.A X.xe use Q (.ref D) C (.ok .next) s') :
    wpAny (model X.prog X.w) X.A (comprehension (.ListComp elt [⟨tg, iter, ifs, 0⟩] scope pos) scope X.env pos' (newList []) false (eval iter X.env) use) Q X.xe s := by
  refine wpAny_comprehension_free (use := use) (g := ⟨tg, iter, ifs, 0⟩) (gs := []) rfl hs ck.clos ck.kind ck.names (thn (hi pins s σ H _ I h) fun v s1 h1 => thn h1 fun itv s2 h2 => ?_)
  obtain ⟨it, fp, tn, J, H2, e, I2, T, st2, f2, RR⟩ := h2
  subst e
  refine wpAny_newObj_type (wpAny_newFunctionEnv ck.cell (by intro y hy; simp at hy) (fun h₁ hns₁ hsb₁ => ?_) ck.kind)
  dsimp only at hns₁ hsb₁ ⊢
  have hD := I2.fresh
  have I3 : Inv X pins σ (upd H2 s2.heap.objs.size (.lst [])) { s2 with heap := s2.heap.push { cls := .type "list", dict := none, data := .seq ([] : List Value).toArray }, toks := s2.toks } := I2.lnew (its := []) .nil (Nat.zero_le _)
  obtain ⟨W, ⟨m0, w0⟩, turn⟩ := RR _ hD
  have olt : ∀ b ∈ fp, b < s2.heap.objs.size := fun b hb => by
    obtain ⟨o, e, _⟩ := T.obj _ _ st2 b hb
    exact Heap.lt_size e
  generalize hDD : s2.heap.objs.size = Da at *
  generalize hH3 : upd H2 Da (.lst []) = H3 at *
  have f3 : ∀ b ∈ fp, FpOk X pins H3 b := fun b hb => ⟨by rw [← hH3, upd_ne (Nat.ne_of_lt (olt b hb))]; exact (f2 b hb).1, (f2 b hb).2⟩
  generalize hs3 : ({ s2 with heap := s2.heap.push { cls := .type "list", dict := none, data := .seq ([] : List Value).toArray }, toks := s2.toks } : Shared) = s3 at *
  have e3 : s2.heap.push { cls := .type "list", dict := none, data := .seq ([] : List Value).toArray } = s3.heap := by rw [← hs3]
  rw [e3] at hns₁ hsb₁ ⊢
  have up2 : ∀ b o, s2.heap.get? b = some o → s3.heap.get? b = some o := fun b o e => by rw [← e3]; exact Heap.get?_push_of_some _ e
  have hlt : ∀ b ∈ fp, b < s3.heap.objs.size := fun b hb => by
    obtain ⟨o, e, _⟩ := T.obj _ _ st2 b hb
    exact Heap.lt_size (up2 _ _ e)
  have keep : ∀ b o, s3.heap.get? b = some o → h₁.get? b = some o := fun b o e => hsb₁.extBut b o (Nat.ne_of_lt (Heap.lt_size e)) (Heap.get?_push_of_some _ e)
  have stat : ∀ {H' : Hp}, (∀ b ∈ fp, H' b = none) → ∀ b ∈ fp, FpOk (cxComp X (own ++ fv.map (·.2)) scope cl fp pins s3 H3) [] H' b := fun {H'} hn b hb => by
    have ok := comp_ok (own := own) (fv := fv) I3 ck f3 hlt
    refine ⟨hn b hb, (ok.exf b hb).1, ok.exfs b hb, .inl hb, (ok.exf b hb).2, fun p hp => ?_⟩
    have hp' : p ∈ X.pn ++ pins := by
      rcases List.mem_append.mp hp with z | z
      · exact z
      · cases z
    exact (f3 b hb).2.2.2.2.2 p hp'
  have loop : ∀ s4 : Shared, Inv (cxComp X (own ++ fv.map (·.2)) scope cl fp pins s3 H3) [] (compSt own.length fv σ) H3 s4 → tn 0 s4.heap →
      codeAny (model X.prog X.w) X.A (.compLoop (.ListComp elt [⟨tg, iter, ifs, 0⟩] scope pos) 0 (.ref it) (.ref Da) (compEnvC scope cl s3.heap.objs.size X.env)) (compPost (model X.prog X.w) X.A X.xe use Q (.ref Da) s3.heap.objs.size) s4 := by
    intro s4 I4 st4
    refine codeAny_compLoop_go (fun n s' => ∃ i ys H', Inv (cxComp X (own ++ fv.map (·.2)) scope cl fp pins s3 H3) [] (compSt own.length fv σ) H' s' ∧ tn i s'.heap ∧ (∀ b ∈ fp, H' b = none) ∧ W i n ys H') ?_ m0
      ⟨0, [], H3, I4, st4, fun b hb => (f3 b hb).1, w0⟩
    rintro n s5 ⟨i, ys, H5, I5, st5, fr5, w5⟩
    obtain ⟨hDl, alt⟩ := turn i n ys H5 w5
    rcases alt with ⟨stop, qn⟩ | ⟨go, NN, hNN, step⟩
    · refine thn (T.done (cxComp X (own ++ fv.map (·.2)) scope cl fp pins s3 H3) rfl rfl rfl hc i [] s5 _ H5 _ I5 (stat fr5) st5 stop) fun r s6 ⟨hr, I6⟩ => ?_
      subst hr
      have hx := comp_ns I3 I6
      refine fin Da _ H5 s6 (comp_exit I3 f3 I6) qn hx.1 hx.2 (fun pins1 σ1 H1 s1 h' J1 hp1 hn1 sb => comp_forget I3 J1 hp1 hn1 sb) ⟨Ne.symm (Nat.ne_of_lt I3.lt), I3.nofs (Nat.le_refl _)⟩
    · refine thn (T.item (cxComp X (own ++ fv.map (·.2)) scope cl fp pins s3 H3) rfl rfl rfl hc i [] s5 _ H5 _ I5 (stat fr5) st5 go) fun r s6 ⟨u, hr, h6⟩ => ?_
      subst hr
      refine thn h6 fun _ s7 ⟨x, H7, I7, r7, y7, st7, fr7⟩ => ?_
      have I7' := I7.pinned (stat fr7) (T.obj _ _ st7)
      refine wpAny_mono (bg fp pins s3 H3 _ s7 _ H7 x u _ I7' r7 (gk _ _ _ _ (step x H7 y7))) (fun _ s8 ⟨σ8, H8, I8, ⟨kl, kk⟩, q8⟩ => ?_) (fun _ _ f => f.elim)
      have weak : ∀ {H9 : Hp} {s9 : Shared}, Inv (cxComp X (own ++ fv.map (·.2)) scope cl fp pins s3 H3) ([] ++ pinsAt fp s7.heap) σ8 H9 s9 →
          Inv (cxComp X (own ++ fv.map (·.2)) scope cl fp pins s3 H3) [] (compSt own.length fv σ) H9 s9 ∧ tn (i + 1) s9.heap ∧ (∀ b ∈ fp, H9 b = none) := fun {H9 s9} I9 => by
        refine ⟨I9.unpinned.weak kl.symm (fun j v hj => ?_), T.keep _ _ _ st7 fun b hb o e => (I9.pin (b, o) (List.mem_append_right _ (List.mem_append_right _ (mem_pinsAt hb e)))).1, fun b hb => ?_⟩
        · rw [kk j (compSt_get hj).1]
          exact hj
        · obtain ⟨o, e, d⟩ := T.obj _ _ st7 b hb
          exact (I9.pin (b, o) (List.mem_append_right _ (List.mem_append_right _ (mem_pinsAt hb e)))).2.1
      refine wpAny_mono (bt fp pins s3 H3 _ s8 σ8 H8 _ I8 q8) (fun b s9 ⟨H9, I9, q9⟩ => ?_) (fun _ _ f => f.elim)
      cases b with
      | false =>
        have q9' : NN ys H9 := q9
        obtain ⟨m', hm, w9⟩ := hNN _ _ q9'
        have wk := weak I9
        rw [if_neg Bool.false_ne_true]
        exact ⟨m', hm, i + 1, ys, H9, wk.1, wk.2.1, wk.2.2, w9⟩
      | true =>
        rw [if_pos rfl]
        rw [if_pos rfl] at q9
        refine wpAny_mono (be fp pins s3 H3 _ s9 σ8 H9 _ I9 q9) (fun y s10 ⟨v10, H10, I10, r10, d10, l10, n10⟩ => ?_) (fun _ _ f => f.elim)
        obtain ⟨m', hm, w10⟩ := hNN _ _ n10
        refine wpAny_mono (mt_append (X := cxComp X (own ++ fv.map (·.2)) scope cl fp pins s3 H3) _ s10 σ8 H10 (.ref Da) [v10] (.ref Da) [y] (fun _ H11 => H11 = upd H10 Da (.lst (ys ++ [v10]))) I10 rfl (.cons r10 .nil) ⟨Da, ys, v10, rfl, rfl, d10, l10, rfl⟩)
          (fun _ s11 ⟨v11, H11, I11, _, e11⟩ => ?_) (fun _ _ f => f.elim)
        subst e11
        have wk := weak I11
        exact ⟨m', hm, i + 1, ys ++ [v10], _, wk.1, wk.2.1, wk.2.2, w10⟩
  have I4 : Inv (cxComp X (own ++ fv.map (·.2)) scope cl fp pins s3 H3) [] (compSt own.length fv σ) H3 { s3 with heap := h₁, toks := s3.toks + ([] : List (Str × Value)).length } := comp_start I3 ck fo f3 hlt hns₁ keep
  have st4 : tn 0 h₁ := T.keep _ _ _ st2 fun b hb o e => keep b o (up2 b o e)
  have hfin : ∀ s4 : Shared, s4 = { s3 with heap := h₁, toks := s3.toks + ([] : List (Str × Value)).length } →
      codeAny (model X.prog X.w) X.A (.compStart (.ListComp elt [⟨tg, iter, ifs, 0⟩] scope pos) 0 (.ref it) (.ref Da) (compEnvC scope cl s3.heap.objs.size X.env)) (compPost (model X.prog X.w) X.A X.xe use Q (.ref Da) s3.heap.objs.size) s4 := by
    rintro s4 rfl
    refine codeAny_compStart_list (loop _ I4 st4) (T.self _ 0 _ _ _ st4 (loop _ I4 st4))
  refine hfin _ ?_
  rw [← hs3]
def freeOk (X : Cx) (scope : Scope) : Bool := scope.names.all fun y => !(y.2 == NameKind.free) || (X.env.scope.names.lookup y.1 == some .cell) || (X.env.scope.names.lookup y.1 == some .free)
theorem freeOk.all {X : Cx} {scope : Scope} (h : freeOk X scope = true) : ∀ y ∈ scope.names, y.2 = .free → X.env.kindOf y.1 = some .cell ∨ X.env.kindOf y.1 = some .free := fun y hy e => by
  have z := List.all_eq_true.mp h y hy
  rw [Bool.or_eq_true, Bool.or_eq_true] at z
  rcases z with (z | z) | z
  · rw [e] at z
    exact absurd z (by decide)
  · exact .inl (eq_of_beq z)
  · exact .inr (eq_of_beq z)
theorem nofree {X : Cx} {scope : Scope} (h : ∀ y ∈ scope.names, y.2 ≠ .free) : freeOk X scope = true := List.all_eq_true.mpr fun y hy => by
  have z : (y.2 == NameKind.free) = false := by simpa using h y hy
  rw [z]
  rfl
theorem pe_comp {pos : Pos} (own : List Str) (fv : List (Nat × Str)) (hc : X.calm = true) (hi : PI X tg iter wi) (fo : FvOk X scope fv) (gk : GKeep own.length g)
    (bg : ∀ fp pins s H, PG (cxComp X (own ++ fv.map (·.2)) scope (clF X.env scope.names []) fp pins s H) tg g)
    (bt : ∀ fp pins s H, PTs (cxComp X (own ++ fv.map (·.2)) scope (clF X.env scope.names []) fp pins s H) ifs tc)
    (be : ∀ fp pins s H, PE (cxComp X (own ++ fv.map (·.2)) scope (clF X.env scope.names []) fp pins s H) elt te)
    (kind : scope.kind = .function) (cell : ∀ y ∈ scope.names, y.2 ≠ .cell) (names : ∀ x ∈ scope.names, x.2 = .local → scope.names.lookup x.1 = some .local)
    (free : freeOk X scope = true)
    (hs : ∀ x, foldedSetIterable iter X.env x = pure x := by intro _; rfl) :
    PE X (.ListComp elt [⟨tg, iter, ifs, 0⟩] scope pos) (tComp wi g tc te own.length fv) := by
  intro pins s σ H Q I h
  rw [eval_ListComp]
  refine comp_run (use := none) hc hi I (clok_mk I.ok kind cell names (freeOk.all free)) fo gk bg bt be hs h fun D C H' s' I' q ⟨m, hm⟩ hn forget _ => ?_
  exact ⟨m, hm, fun h' sb => ⟨.ref D, H', forget pins σ H' s' h' I' (fun _ z => z) hn sb, rfl, q⟩⟩
theorem ps_setComp {pos spos py : Pos} {i : Nat} {y : Str} (own : List Str) (fv : List (Nat × Str)) (hN : X.N.Nodup) (hy : X.N[i]? = some y) (hx : Loc X.env.scope y) (hc : X.calm = true) (hi : PI X tg iter wi) (fo : FvOk X scope fv) (gk : GKeep own.length g)
    (bg : ∀ fp pins s H, PG (cxComp X (own ++ fv.map (·.2)) scope (clF X.env scope.names []) fp pins s H) tg g)
    (bt : ∀ fp pins s H, PTs (cxComp X (own ++ fv.map (·.2)) scope (clF X.env scope.names []) fp pins s H) ifs tc)
    (be : ∀ fp pins s H, PE (cxComp X (own ++ fv.map (·.2)) scope (clF X.env scope.names []) fp pins s H) elt te)
    (kind : scope.kind = .function) (cell : ∀ y ∈ scope.names, y.2 ≠ .cell) (names : ∀ x ∈ scope.names, x.2 = .local → scope.names.lookup x.1 = some .local)
    (free : freeOk X scope = true)
    (hsw : swapsWith (.ListComp elt [⟨tg, iter, ifs, 0⟩] scope pos) (some (.Name y py)) spos.line X.env = pure true)
    (hs : ∀ x, foldedSetIterable iter X.env x = pure x := by intro _; rfl) (hf : X.fn y = true ∨ X.env.scope.names.lookup y = some .local := by first | exact Or.inl rfl | exact Or.inr rfl) :
    PS X (.Assign [.Name y py] (.ListComp elt [⟨tg, iter, ifs, 0⟩] scope pos) spos) (tAsg (tComp wi g tc te own.length fv) (gName i)) := by
  intro pins s σ H D I h
  rw [exec_Assign_Name_used _ _ _ _ hsw]
  refine wpAny_bind (wpAny_standAt (wpAny_bind ?_))
  show wpAny _ X.A (do let _ ← comprehension (.ListComp elt [⟨tg, iter, ifs, 0⟩] scope pos) scope X.env _ (newList []) false (eval iter X.env) (some (assign (.Name y py) X.env))) _ _ s
  refine wpAny_bind (wpAny_mono (comp_run (use := some (assign (.Name y py) X.env)) (Q := fun _ s' => SP X pins D .next s') hc hi I (clok_mk I.ok kind cell names (freeOk.all free)) fo gk bg bt be hs h
    fun Da C H' s' I' q hm hn forget hC => ?_) (fun _ s' hq => wpAny_pure (wpAny_pure hq)) fun _ _ e => e)
  obtain ⟨m, o, es, ep, e, d, r⟩ := hm
  have I2 : Inv X (pins ++ [(C, o)]) σ H' s' := I'.pins_of fun p hp => by
    rcases List.mem_append.mp hp with z | z
    · exact I'.pin p (List.mem_append_right _ z)
    · rw [List.mem_singleton.mp z]
      exact ⟨e, hn, hC.1, hC.2, fun v z => by rw [d] at z; cases z⟩
  refine thn (pg_name hN hy hx hf _ s' σ H' (.ref Da) (.ref Da) _ I2 rfl q) fun _ s'' ⟨σ2, H2, I3, q2⟩ => ?_
  have pc := I3.pin (C, o) (List.mem_append_right _ (List.mem_append_right _ (List.mem_singleton.mpr rfl)))
  exact ⟨m, ⟨o, es, ep, pc.1, d, r⟩, fun h' sb => ⟨σ2, H2, forget pins σ2 H2 s'' h' I3.unpinned (fun _ z => z) pc.2.1 sb, q2⟩⟩
theorem comp_n {J : It} {D : Addr} {n : Nat} {σ0 : St} {H : Hp} {Q : VK} (Pv : Nat → List V → Hp → Prop) (h0 : Pv 0 [] H) (hD : ∀ i ys H, Pv i ys H → H D = some (.lst ys)) (hgo : ∀ i ys H, i < n → Pv i ys H → J.go i H)
    (hs : ∀ i ys H x H', i < n → Pv i ys H → J.yld i H x H' → g x σ0 H' fun σ2 H2 => tc σ2 H2 fun b H3 =>
      if b = true then te σ2 H3 fun v H4 => H4 D = some (.lst ys) ∧ ys.length < sizeLine ∧ Pv (i + 1) (ys ++ [v]) (upd H4 D (.lst (ys ++ [v]))) else Pv (i + 1) ys H3)
    (hd : ∀ ys H, Pv n ys H → J.stop n H ∧ Q (.ref D) H) :
    CompW J g tc te σ0 D Q H := by
  refine ⟨fun i m ys H => m = n - i ∧ i ≤ n ∧ Pv i ys H, ⟨n, by simp, Nat.zero_le _, h0⟩, ?_⟩
  rintro i m ys H ⟨rfl, hi, p⟩
  refine ⟨hD i ys H p, ?_⟩
  by_cases hlt : i < n
  · exact .inr ⟨hgo i ys H hlt p, Pv (i + 1), fun ys' H' z => ⟨n - (i + 1), by omega, rfl, hlt, z⟩, fun x H' y => hs i ys H x H' hlt p y⟩
  · have e : i = n := by omega
    subst e
    exact .inl (hd ys H p)
end
end L2
set_option maxHeartbeats 4000000
namespace L2
open PySem PySem.Spec PyProof.Rows
structure Callee (P : Program) (w : World) (K : PySem.W.Frag) (mg : Str → Option Value) (base : Heap) (k : Nat) (x : Str) (ps : List Str) (sp : Sp) : Prop where
  ex : ∃ (f : Addr) (fd : FuncData), FnOk P w K mg base CX0 k f fd ps sp ∧ mg x = some (.ref f) ∧ PySem.W.keepIn K (.ref f) = true ∧ Binds K fd ps [] ∧ ∃ o, K.lookup f = some o ∧ o.data = .func fd
theorem Callee.mono {P : Program} {w : World} {K : PySem.W.Frag} {mg : Str → Option Value} {base : Heap} {j k : Nat} {x : Str} {ps : List Str} {sp : Sp} (C : Callee P w K mg base j x ps sp) (h : j ≤ k) : Callee P w K mg base k x ps sp := by
  obtain ⟨f, fd, F, r⟩ := C.ex
  exact ⟨f, fd, F.mono h, r⟩
theorem Callee.imp {P : Program} {w : World} {K : PySem.W.Frag} {mg : Str → Option Value} {base : Heap} {k : Nat} {x : Str} {ps : List Str} {sp sp' : Sp} (C : Callee P w K mg base k x ps sp) (h : ∀ vs H Q E, sp' vs H Q E → sp vs H Q E) : Callee P w K mg base k x ps sp' := by
  obtain ⟨f, fd, F, r⟩ := C.ex
  exact ⟨f, fd, F.imp h, r⟩
structure Def (K : PySem.W.Frag) (mg : Str → Option Value) (x : Str) (st : Stmt) (ps : List Str) : Prop where
  ex : ∃ (f : Addr) (fd : FuncData), Fun K x x st f fd ∧ mg x = some (.ref f) ∧ Binds K fd ps [] ∧ ∀ (s : Shared) (us : List Value), us.length = ps.length → BindsTo s fd ⟨us, []⟩ (ps.zip us)
section
variable {P : Program} {w : World} {K : PySem.W.Frag} {mg : Str → Option Value} {base : Heap}
theorem Def.ok {x : Str} {st : Stmt} {N ps : List Str} {k : Nat} {sp : Sp} (D : Def K mg x st ps) (S : FnScope N ps (defScope st)) (len : ∀ vs H Q E, sp vs H Q E → vs.length = ps.length)
    (hbody : ∀ (f : Addr) (cdv : Value) (A : Around) (outer : List Env) (s : Shared) (H : Hp) (vs : List V) (Q : VK) (E : XK), Room k (A.deeper (envOfC x (defScope st) s.heap.objs.size f cdv)) → sp vs H Q E →
      ∃ t, PSs (cxOf CX0 P w K mg base N x (defScope st) f cdv A outer s H E).nox (defBody st) t ∧ t { nx := fun _ H' => Q .non H', rt := Q } (start N vs) H) : Callee P w K mg base (k + 1) x ps sp := by
  obtain ⟨f, fd, F, m, b, _⟩ := D.ex
  obtain ⟨oc, od, kV, doc, pm, an, cdv, ct, osl, _, lk, _⟩ := F.ex
  exact ⟨f, fd, F.ok S len (fun cdv A outer s H vs Q E hr h => hbody f cdv A outer s H vs Q E hr h), m, F.kp, b, _, lk, rfl⟩
theorem law_mk {x : Str} {st : Stmt} {k : Nat} {sp : Sp} {fa : Addr} (D : Def K mg x st ["script"]) (hfa : mg x = some (.ref fa)) (C : ∀ base : Heap, K.In base → base.Ns mainGlobals mg → Callee P w K mg base k x ["script"] sp) :
    ∃ fd : FuncData, (∀ (s : Shared) (u : Value), BindsTo s fd ⟨[u], []⟩ [("script", u)]) ∧ ∀ base : Heap, K.In base → base.Ns mainGlobals mg → FnOk P w K mg base CX0 k fa fd ["script"] sp := by
  obtain ⟨f, fd, F, m, b, bt⟩ := D.ex
  obtain ⟨oc, od, kV, doc, pm, an, cdv, ct, osl, _, lk, _⟩ := F.ex
  refine ⟨fd, fun s u => bt s [u] rfl, fun base kb nb => ?_⟩
  obtain ⟨f', fd', F', m', _, _, o, lk', e⟩ := (C base kb nb).ex
  rw [m] at hfa
  cases hfa
  rw [m] at m'
  cases m'
  rw [lk] at lk'
  cases lk'
  cases e
  exact F'
theorem def_mk {h : Heap} {x : Str} {st : Stmt} {ps : List Str} {f : Addr} {oc : Value} {od an : Option Addr} {osl : Array (Option Value)} {kV doc pm cdv ct : Value} (X : K.In h) (G : h.Ns mainGlobals mg)
    (hb : ∀ (kV doc pm : Value) (an : Option Addr) (cdv ct : Value) (us : List Value), us.length = ps.length → bindArgs (PySem.W.fnOf x x (defArgs st) (defBody st) (defScope st) .none kV doc pm an cdv ct) ⟨us, []⟩ = pure (ps.zip us))
    (a : PySem.W.nsIn K mainGlobals x = some (some (.ref f)))
    (l : K.lookup f = some ⟨oc, od, .func (PySem.W.fnOf x x (defArgs st) (defBody st) (defScope st) .none kV doc pm an cdv ct), osl⟩)
    (c : PySem.W.codeIn K cdv x = true) (k : PySem.W.keepIn K (.ref f) = true) : Def K mg x st ps := by
  have F := fun_mk (st := st) l c k
  exact ⟨f, _, F, PySem.W.mg_of X G a, F.binds hb, fun s us hl => .of_eq (hb _ _ _ _ _ _ us hl)⟩
end
section
variable {X : Cx} {k : Nat} {x : Str} {ps : List Str} {sp : Sp} {p pos : Pos} {e : Expr} {es : List Expr} {t : TA}
theorem pe_callC (C : Callee X.prog X.w X.K X.mg X.base k x ps sp) (hr : Room k X.A) (hg : Gl X x) (ha : PA X (e :: es) t) (hdb : (x == ("__debug__" : Str)) = false := by decide)
    (hst : starEach (e :: es) X.env = (false, eval e X.env) :: starEach es X.env := by rfl) (hpl : (backTo pos (starEach es X.env)).any (·.1) = false := by rfl) : PE X (.Call (.Name x p) (e :: es) [] pos) (tCall sp [] E0 t) := by
  obtain ⟨f, fd, F, m, kp, b, _⟩ := C.ex
  exact pe_call F hr hg m kp b .nil pass0 ha hdb hst hpl
end
section
variable {X : Cx}
inductive BT (H : Hp) : V → String → Prop where
  | non : BT H .non "NoneType"
  | bl (x : Bool) : BT H (.bl x) "bool"
  | int (i : Int) : BT H (.int i) "int"
  | str (x : Str) : BT H (.str x) "str"
  | lst {a : Addr} {xs : List V} (e : H a = some (.lst xs)) : BT H (.ref a) "list"
  | tup {a : Addr} {xs : List V} (e : H a = some (.tup xs)) : BT H (.ref a) "tuple"
  | dct {a : Addr} {kvs : List (Key × V)} (e : H a = some (.dK kvs)) : BT H (.ref a) "dict"
def subT (T U : String) : Bool := T == U || (T == "bool" && U == "int")
theorem kit_of (K : PySem.W.Frag) (T U : String) (hT : T ∈ ["NoneType", "bool", "int", "str", "list", "tuple", "dict"]) (hU : U ∈ ["bool", "int", "str", "list", "tuple"]) : PySem.W.kitOne K (.type T) (.type U) = some (subT T U) := by
  simp only [List.mem_cons, List.mem_nil_iff, or_false] at hT hU
  rcases hT with rfl | rfl | rfl | rfl | rfl | rfl | rfl <;> rcases hU with rfl | rfl | rfl | rfl | rfl <;> with_unfolding_all rfl
end
structure ObK (K : PySem.W.Frag) (C : Addr) : Prop where
  ns : PySem.W.nsIn K mainGlobals "Keeper" = some (some (.ref C))
  cl : Cls K C
  ha : PySem.W.findIn K (.ref C) "__class__" = some (some (.builtin "object.__class__"))
  hn : PySem.W.specialIn K (.builtin "object.__class__") "__get__" = some (some (.builtin "getset_descriptor.__get__"))
  htk : PySem.W.takesIn K (.builtin "object.__class__") = some true
  hm : PySem.W.mroIn K C (.type "object") = some true
  ki : ∀ U ∈ ["bool", "int", "str", "list", "tuple"], PySem.W.kitOne K (.ref C) (.type U) = some false
def objK (ks : List Str) (ds : List PyData) : List (PyData × PyData) := (.none, .none) :: (ks.zip ds).map fun p => (.str p.1, p.2)
mutual
inductive Rep (K : PySem.W.Frag) (H : Hp) : V → PyData → Prop
  | non : Rep K H .non .none
  | bl (b : Bool) : Rep K H (.bl b) (.bool b)
  | int (i : Int) : Rep K H (.int i) (.int i)
  | str (x : Str) : Rep K H (.str x) (.str x)
  | lst {a : Addr} {xs : List V} {ds : List PyData} : SqL K H a xs → RepAll K H xs ds → Rep K H (.ref a) (.list ds)
  | tup {a : Addr} {xs : List V} {ds : List PyData} : SqT K H a xs → RepAll K H xs ds → Rep K H (.ref a) (.tuple ds)
  | dic {a : Addr} {kvs : List (Key × V)} : H a = some (.dK kvs) → Rep K H (.ref a) (.dict [])
  | obj {a C dx : Addr} {fs : List (Str × V)} {ds : List PyData} {kvs : List (PyData × PyData)} : ObK K C → H a = some (.ins C dx fs) → RepAll K H (fs.map (·.2)) ds → kvs = objK (fs.map (·.1)) ds → Rep K H (.ref a) (.dict kvs)
inductive RepAll (K : PySem.W.Frag) (H : Hp) : List V → List PyData → Prop
  | nil : RepAll K H [] []
  | cons {x : V} {d : PyData} {xs : List V} {ds : List PyData} : Rep K H x d → RepAll K H xs ds → RepAll K H (x :: xs) (d :: ds)
end
theorem Same.seqT {K : PySem.W.Frag} {H H' : Hp} {a : Addr} {xs : List V} (e : Same H H') (h : SqT K H a xs) : SqT K H' a xs := by
  rcases h with (h | ⟨o, h⟩) | h
  · exact .inl (.inl (e _ _ h))
  · exact .inl (.inr ⟨o, e _ _ h⟩)
  · exact .inr h
theorem Same.new {H : Hp} {p : Addr} {o : HO} (h : H p = none) : Same H (upd H p o) := fun b u e => by
  rw [upd_ne (ne_of_none e h)]
  exact e
mutual
theorem Rep.mono {K : PySem.W.Frag} {H H' : Hp} (e : Same H H') : ∀ {x : V} {d : PyData}, Rep K H x d → Rep K H' x d
  | _, _, .non => .non
  | _, _, .bl b => .bl b
  | _, _, .int i => .int i
  | _, _, .str x => .str x
  | _, _, .lst q r => .lst (e.seq q) (RepAll.mono e r)
  | _, _, .tup q r => .tup (e.seqT q) (RepAll.mono e r)
  | _, _, .dic q => .dic (e _ _ q)
  | _, _, .obj k q r z => .obj k (e _ _ q) (RepAll.mono e r) z
theorem RepAll.mono {K : PySem.W.Frag} {H H' : Hp} (e : Same H H') : ∀ {xs : List V} {ds : List PyData}, RepAll K H xs ds → RepAll K H' xs ds
  | _, _, .nil => .nil
  | _, _, .cons q r => .cons (Rep.mono e q) (RepAll.mono e r)
end
section
variable {X : Cx} {pins : List (Addr × Obj)} {σ : St} {H : Hp} {s : Shared}
mutual
theorem Rep.reads (I : Inv X pins σ H s) : ∀ {x : V} {d : PyData}, Rep X.K H x d → d.canLay0 = true → ∀ {u : Value}, RelV x u → ∃ as, Reads s.heap u d as
  | _, _, .non, _, _, r => by cases r; exact ⟨_, .none⟩
  | _, _, .bl b, _, _, r => by cases r; exact ⟨_, .bool b⟩
  | _, _, .int i, _, _, r => by obtain ⟨t, rfl⟩ := r; exact ⟨_, .int i t⟩
  | _, _, .str x, _, _, r => by obtain ⟨t, rfl⟩ := r; exact ⟨_, .str x t⟩
  | _, _, .lst q r, h, _, rv => by
    cases rv
    obtain ⟨its, v, pl, _⟩ := I.list q
    obtain ⟨as, z⟩ := RepAll.reads I r h v
    obtain ⟨o, n, e, c, _, d⟩ := pl
    exact ⟨_, reads_list_at e c d (by simpa using z)⟩
  | _, _, .tup q r, h, _, rv => by
    cases rv
    obtain ⟨its, v, pl, _⟩ := I.tuple q
    obtain ⟨as, z⟩ := RepAll.reads I r h v
    obtain ⟨o, e, c, n, d⟩ := pl
    exact ⟨_, reads_tuple_at e c d (by simpa using z)⟩
  | _, _, .dic _, h, _, _ => by cases h
  | _, _, .obj _ _ _ _, h, _, _ => by cases h
theorem RepAll.reads (I : Inv X pins σ H s) : ∀ {xs : List V} {ds : List PyData}, RepAll X.K H xs ds → PyData.canLayAll0 ds = true → ∀ {us : List Value}, Vals xs us → ∃ as, ReadsAll s.heap us ds as
  | _, _, .nil, _, _, .nil => ⟨_, .nil⟩
  | _, _, .cons q r, h, _, .cons v vs => by
    obtain ⟨h1, h2⟩ := Bool.and_eq_true_iff.mp h
    obtain ⟨as, z⟩ := Rep.reads I q h1 v
    obtain ⟨bs, z2⟩ := RepAll.reads I r h2 vs
    exact ⟨_, .cons z z2⟩
end
end
section
variable {X : Cx}
theorem op_eqD (hu : X.A.units + 64 < cLine) : OpR X (compareOp .Eq) (fun x y H Q => ∃ d e, Rep X.K H x d ∧ Rep X.K H y e ∧ SeqAt.shaped d = true ∧ SeqAt.shaped e = true ∧ Q (.bl (PyData.eqv d e)) H) := by
  intro pins s σ H x y v u Q I rx ry h
  obtain ⟨d, e, rd, re, sd, se, q⟩ := h
  obtain ⟨as, ra⟩ := rd.reads I (Bool.and_eq_true_iff.mp sd).1 rx
  obtain ⟨bs, rb⟩ := re.reads I (Bool.and_eq_true_iff.mp se).1 ry
  exact eq_dataH ra rb sd se hu ⟨.bl _, H, I, rfl, q⟩
theorem op_neD (hu : X.A.units + 64 < cLine) : OpR X (compareOp .NotEq) (fun x y H Q => ∃ d e, Rep X.K H x d ∧ Rep X.K H y e ∧ SeqAt.shaped d = true ∧ SeqAt.shaped e = true ∧ Q (.bl (!PyData.eqv d e)) H) := by
  intro pins s σ H x y v u Q I rx ry h
  obtain ⟨d, e, rd, re, sd, se, q⟩ := h
  obtain ⟨as, ra⟩ := rd.reads I (Bool.and_eq_true_iff.mp sd).1 rx
  obtain ⟨bs, rb⟩ := re.reads I (Bool.and_eq_true_iff.mp se).1 ry
  exact ne_dataH ra rb sd se hu ⟨.bl _, H, I, rfl, q⟩
theorem hu64 {A : Around} {k : Nat} (hr : Room k A) : A.units + 64 < cLine := hr.units
theorem call_all : CallR X (.builtin "all") (fun xs H Q => X.A.handled = none ∧ ∃ (a : Addr) (bs : List Bool), xs = [.ref a] ∧ SqL X.K H a (bs.map V.bl) ∧ Q (.bl (bs.all id)) H) := by
  intro pins s σ H xs us Q I r h
  obtain ⟨hh, a, bs, rfl, hq, q⟩ := h
  obtain ⟨u, rfl, rx⟩ := vals1 r
  cases rx
  obtain ⟨its, v, pl, hz⟩ := I.list hq
  have hl := v.length
  refine call_all_walk (wpAny_pyIter_list pl.isList ?_)
  have hlt : a < s.heap.objs.size := by obtain ⟨_, e, _⟩ := pl.isList; exact Heap.lt_size e
  refine ⟨s.heap.objs.size, _, _, _, _, _, fun i => bs.getD i true, rfl, Walks.list (A := X.A.in1) hh s.heap.objs.size a (Nat.ne_of_lt hlt) its.toArray, ⟨⟨_, Heap.get?_push_size _ rfl, rfl, rfl⟩, pl.isList.push _⟩, ?_, fun h' tk hk => ?_⟩
  · intro i w' s' Q' E' hP hQ
    have hP' : its[i]? = some w' := by simpa using hP
    have hi : i < bs.length := by
      have := (List.getElem?_eq_some_iff.mp hP').1
      rw [List.length_map] at hl
      omega
    obtain ⟨w2, e2, r2⟩ := v.get (i := i) (x := .bl bs[i]) (by simp [hi])
    rw [hP'] at e2
    cases e2
    obtain rfl : w' = Value.bool bs[i] := r2
    have e3 : bs.getD i true = bs[i] := by simp [hi]
    have hQ2 : Q' (bs.getD i true) s' := hQ
    rw [e3] at hQ2
    exact wpAny_truthy_bool hQ2
  · have e : (List.range its.toArray.size).all (fun i => bs.getD i true) = bs.all id := by
      rw [List.length_map] at hl
      rw [List.size_toArray, ← hl, Bool.eq_iff_iff, List.all_eq_true, List.all_eq_true]
      constructor
      · intro z b hb
        obtain ⟨i, hi, rfl⟩ := List.mem_iff_getElem.mp hb
        have := z i (List.mem_range.mpr hi)
        simpa [hi] using this
      · intro z i hi
        have hi' := List.mem_range.mp hi
        have := z bs[i] (List.getElem_mem hi')
        simpa [hi'] using this
    rw [e]
    exact ⟨.bl _, H, I.kept (t' := tk) (fun b o e => hk b o (by simp; exact Nat.ne_of_lt (Heap.lt_size e)) (Heap.get?_push_of_some _ e)), rfl, q⟩
end
end L2
namespace L2
open PySem PySem.Spec PyProof.Rows
theorem eqv_pair (a b c d : Int) : PyData.eqv (.tuple [.int a, .int b]) (.tuple [.int c, .int d]) = decide (a = c ∧ b = d) := by
  simp [PyData.eqv, PyData.eqvAll]
  by_cases h1 : a = c <;> by_cases h2 : b = d <;> simp [h1, h2]
end L2
set_option maxHeartbeats 4000000
namespace L2
open PySem PySem.Spec PyProof.Rows
section
variable {X : Cx} {pins : List (Addr × Obj)} {σ : St} {H : Hp} {s : Shared} {h' : Heap}
end
section
variable {X : Cx} {elts : List Expr} {k1 : Nat} {tpos : Pos}
end
end L2
set_option maxHeartbeats 4000000
namespace L2
open PySem PySem.Spec PyProof.Rows
abbrev Thing := Option (Int × Int)
def encD : Thing → PyData
  | none => .tuple []
  | some (k, w) => .tuple [.int k, .int w]
section
variable {α β : Type} {F : α → β → Prop}
end
theorem canLay_T (t : Thing) : (encD t).canLay0 = true ∧ (encD t).depth ≤ 1 := by
  cases t with
  | none => simp [encD, PyData.canLay0, PyData.canLayAll0, PyData.depth, PyData.depthAll]
  | some kw => simp [encD, PyData.canLay0, PyData.canLayAll0, PyData.depth, PyData.depthAll]
theorem shaped_T (t : Thing) : SeqAt.shaped (encD t) = true := by
  have := canLay_T t
  unfold SeqAt.shaped
  rw [this.1, Bool.true_and]
  exact decide_eq_true (Nat.le_trans this.2 (by decide))
theorem canLays_T : ∀ ts : List Thing, PyData.canLayAll0 (ts.map encD) = true ∧ PyData.depthAll (ts.map encD) ≤ 1
  | [] => by simp [PyData.canLayAll0, PyData.depthAll]
  | t :: r => by
    have h1 := canLay_T t
    have h2 := canLays_T r
    simp only [List.map_cons, PyData.canLayAll0, PyData.depthAll, h1.1, h2.1, Bool.and_self, true_and]
    have a1 := h1.2
    have a2 := h2.2
    omega
theorem shaped_L (ts : List Thing) : SeqAt.shaped (.list (ts.map encD)) = true := by
  have := canLays_T ts
  unfold SeqAt.shaped
  simp only [PyData.canLay0, PyData.depth, this.1, Bool.true_and]
  exact decide_eq_true (by omega)
theorem eqv_T (t u : Thing) : PyData.eqv (encD t) (encD u) = decide (t = u) := by
  cases t with
  | none => cases u with
    | none => simp [encD, PyData.eqv, PyData.eqvAll]
    | some kw => simp [encD, PyData.eqv, PyData.eqvAll]
  | some kw => cases u with
    | none => simp [encD, PyData.eqv, PyData.eqvAll]
    | some kw' =>
      obtain ⟨a, b⟩ := kw
      obtain ⟨c, d⟩ := kw'
      show PyData.eqv (.tuple [.int a, .int b]) (.tuple [.int c, .int d]) = _
      rw [eqv_pair]
      by_cases h1 : a = c <;> by_cases h2 : b = d <;> simp [h1, h2]
theorem eqvAll_T : ∀ ts us : List Thing, PyData.eqvAll (ts.map encD) (us.map encD) = decide (ts = us)
  | [], [] => by simp [PyData.eqvAll]
  | [], _ :: _ => by simp [PyData.eqvAll]
  | _ :: _, [] => by simp [PyData.eqvAll]
  | t :: r, u :: q => by
    simp only [List.map_cons, PyData.eqvAll, eqv_T, eqvAll_T r q]
    by_cases h1 : t = u <;> by_cases h2 : r = q <;> simp [h1, h2]
theorem eqv_L (ts us : List Thing) : PyData.eqv (.list (ts.map encD)) (.list (us.map encD)) = decide (ts = us) := by
  simp only [PyData.eqv]
  exact eqvAll_T ts us
section
variable {X : Cx}
end
end L2
set_option maxHeartbeats 4000000
namespace L2
open PySem PySem.Spec PyProof.Rows
abbrev D := PyData
def hid (O : List Addr) (H : Hp) : Hp := fun b => if b ∈ O then none else H b
theorem hid_in {O : List Addr} {H : Hp} {b : Addr} (h : b ∈ O) : hid O H b = none := if_pos h
theorem hid_out {O : List Addr} {H : Hp} {b : Addr} (h : b ∉ O) : hid O H b = H b := if_neg h
theorem hid_some {O : List Addr} {H : Hp} {b : Addr} {o : HO} (h : hid O H b = some o) : b ∉ O ∧ H b = some o := by
  by_cases q : b ∈ O
  · rw [hid_in q] at h; cases h
  · rw [hid_out q] at h; exact ⟨q, h⟩
theorem hid_le {O : List Addr} {H : Hp} : Same (hid O H) H := fun b o h => (hid_some h).2
theorem hid_sub {O O' : List Addr} {H : Hp} (h : ∀ b, b ∈ O' → b ∈ O) : Same (hid O H) (hid O' H) := fun b o e => by
  obtain ⟨n, e⟩ := hid_some e
  rw [hid_out fun z => n (h b z)]
  exact e
theorem hid_same {O : List Addr} {H H' : Hp} (s : Same H H') : Same (hid O H) (hid O H') := fun b o e => by
  obtain ⟨n, e⟩ := hid_some e
  rw [hid_out n]
  exact s b o e
theorem hid_upd {O : List Addr} {H : Hp} {a : Addr} {o : HO} (h : a ∈ O) : hid O (upd H a o) = hid O H := by
  funext b
  by_cases q : b ∈ O
  · rw [hid_in q, hid_in q]
  · rw [hid_out q, hid_out q, upd_ne fun z => q (by rw [z]; exact h)]
theorem hid_nil {H : Hp} : hid [] H = H := by
  funext b
  exact hid_out (by simp)
theorem hid_new {O : List Addr} {H : Hp} {a : Addr} {o : HO} (h : H a = none) : Same (hid O H) (hid (a :: O) (upd H a o)) := fun b u e => by
  obtain ⟨n, e⟩ := hid_some e
  have nb : b ≠ a := ne_of_none e h
  rw [hid_out (by simp [nb, n]), upd_ne nb]
  exact e
def OkO (O : List Addr) (H : Hp) : Prop := ∀ a ∈ O, ∃ o, H a = some o
theorem OkO.mono {O : List Addr} {H H' : Hp} (k : OkO O H) (s : Same H H') : OkO O H' := fun a h => by
  obtain ⟨o, e⟩ := k a h
  exact ⟨o, s _ _ e⟩
theorem OkO.fresh {O : List Addr} {H : Hp} {a : Addr} (k : OkO O H) (h : H a = none) : a ∉ O := fun z => by
  obtain ⟨o, e⟩ := k a z
  rw [e] at h
  cases h
theorem OkO.nil {H : Hp} : OkO [] H := fun a h => by cases h
abbrev PEnv := List (Option D)
abbrev PF := PEnv → Option D
abbrev PB := PEnv → Option Bool
abbrev PAs := PEnv → Option (List D)
def EnvR (K : PySem.W.Frag) (H : Hp) (σ : St) (ρ : PEnv) : Prop := ∀ (i : Nat) (d : D), ρ[i]? = some (some d) → ∃ v, σ[i]? = some (some v) ∧ Rep K H v d
theorem EnvR.mono {K : PySem.W.Frag} {H H' : Hp} {σ : St} {ρ : PEnv} (e : EnvR K H σ ρ) (s : Same H H') : EnvR K H' σ ρ := fun i d h => by
  obtain ⟨v, e1, r⟩ := e i d h
  exact ⟨v, e1, r.mono s⟩
def PuE (K : PySem.W.Frag) (te : TE) (f : PF) : Prop := ∀ (O : List Addr) (σ : St) (H : Hp) (ρ : PEnv) (d : D) (Q : VK), OkO O H → EnvR K (hid O H) σ ρ → f ρ = some d →
  (∀ v H', Same H H' → Rep K (hid O H') v d → Q v H') → te σ H Q
def PuT (K : PySem.W.Frag) (te : TT) (f : PB) : Prop := ∀ (O : List Addr) (σ : St) (H : Hp) (ρ : PEnv) (b : Bool) (Q : Bool → Hp → Prop), OkO O H → EnvR K (hid O H) σ ρ → f ρ = some b →
  (∀ H', Same H H' → Q b H') → te σ H Q
def PuA (K : PySem.W.Frag) (te : TA) (f : PAs) : Prop := ∀ (O : List Addr) (σ : St) (H : Hp) (ρ : PEnv) (ds : List D) (Q : List V → Hp → Prop), OkO O H → EnvR K (hid O H) σ ρ → f ρ = some ds →
  (∀ vs H', Same H H' → RepAll K (hid O H') vs ds → Q vs H') → te σ H Q
def PuL (K : PySem.W.Frag) (te : TE) (f : PAs) : Prop := ∀ (O : List Addr) (σ : St) (H : Hp) (ρ : PEnv) (ds : List D) (Q : VK), OkO O H → EnvR K (hid O H) σ ρ → f ρ = some ds →
  (∀ a xs H', Same H H' → H a = none → H' a = some (.lst xs) → RepAll K (hid (a :: O) H') xs ds → Q (.ref a) H') → te σ H Q
def PuR (K : PySem.W.Frag) (r : R2) (g : D → D → Option D) : Prop := ∀ (O : List Addr) (H : Hp) (x y : V) (a b d : D) (Q : VK), OkO O H → Rep K (hid O H) x a → Rep K (hid O H) y b → g a b = some d →
  (∀ v H', Same H H' → Rep K (hid O H') v d → Q v H') → r x y H Q
def PuC (K : PySem.W.Frag) (r : List V → Hp → VK → Prop) (g : List D → Option D) : Prop := ∀ (O : List Addr) (H : Hp) (vs : List V) (ds : List D) (d : D) (Q : VK), OkO O H → RepAll K (hid O H) vs ds → g ds = some d →
  (∀ v H', Same H H' → Rep K (hid O H') v d → Q v H') → r vs H Q
def PuCL (K : PySem.W.Frag) (r : List V → Hp → VK → Prop) (g : List D → Option (List D)) : Prop := ∀ (O : List Addr) (H : Hp) (vs : List V) (ds es : List D) (Q : VK), OkO O H → RepAll K (hid O H) vs ds → g ds = some es →
  (∀ a xs H', Same H H' → H a = none → H' a = some (.lst xs) → RepAll K (hid (a :: O) H') xs es → Q (.ref a) H') → r vs H Q
structure JE (X : Cx) (K : PySem.W.Frag) (e : Expr) (te : TE) (f : PF) : Prop where
  pe : PE X e te
  pu : PuE K te f
structure JT (X : Cx) (K : PySem.W.Frag) (e : Expr) (te : TT) (f : PB) : Prop where
  pe : PT X e te
  pu : PuT K te f
structure JW (X : Cx) (K : PySem.W.Frag) (e : Expr) (te : TT) (f : PB) : Prop where
  pe : PW X e te
  pu : PuT K te f
structure JA (X : Cx) (K : PySem.W.Frag) (es : List Expr) (te : TA) (f : PAs) : Prop where
  pe : PA X es te
  pu : PuA K te f
structure JL (X : Cx) (K : PySem.W.Frag) (e : Expr) (te : TE) (f : PAs) : Prop where
  pe : PE X e te
  pu : PuL K te f
structure OpJ (X : Cx) (K : PySem.W.Frag) (f : Value → Value → Sem Value) (r : R2) (g : D → D → Option D) : Prop where
  pe : OpR X f r
  pu : PuR K r g
structure CallJ (X : Cx) (K : PySem.W.Frag) (f : Value) (r : List V → Hp → VK → Prop) (g : List D → Option D) : Prop where
  pe : CallR X f r
  pu : PuC K r g
structure CallJL (X : Cx) (K : PySem.W.Frag) (f : Value) (r : List V → Hp → VK → Prop) (g : List D → Option (List D)) : Prop where
  pe : CallR X f r
  pu : PuCL K r g
def pVar (i : Nat) : PF := fun ρ => (ρ[i]?).join
def pCon (d : D) : PF := fun _ => some d
def pOp (g : D → D → Option D) (a b : PF) : PF := fun ρ => (a ρ).bind fun x => (b ρ).bind fun y => g x y
def pUn (g : D → Option D) (a : PF) : PF := fun ρ => (a ρ).bind g
def asB : D → Option Bool
  | .bool b => some b
  | _ => none
def pTest (a : PF) : PB := fun ρ => (a ρ).bind asB
def pNotT (a : PB) : PB := fun ρ => (a ρ).map (!·)
def pAndT (a b : PB) : PB := fun ρ => (a ρ).bind fun x => if x = true then b ρ else some false
def pOrT (a b : PB) : PB := fun ρ => (a ρ).bind fun x => if x = true then some true else b ρ
def pTrue : PB := fun _ => some true
def pAnd (a b : PF) : PF := fun ρ => (a ρ).bind fun x => (asB x).bind fun k => if k = true then b ρ else some (.bool false)
def pOr (a b : PF) : PF := fun ρ => (a ρ).bind fun x => (asB x).bind fun k => if k = true then some (.bool true) else b ρ
def pNot (a : PF) : PF := fun ρ => (a ρ).bind fun x => (asB x).bind fun k => some (.bool (!k))
def pIf (c : PB) (a b : PF) : PF := fun ρ => (c ρ).bind fun x => if x = true then a ρ else b ρ
def pChain (g g' : D → D → Option D) (a b c : PF) : PF := fun ρ => (a ρ).bind fun x => (b ρ).bind fun y => (g x y).bind fun z => (asB z).bind fun k => if k = true then (c ρ).bind fun u => g' y u else some (.bool false)
def pNil : PAs := fun _ => some []
def pCons (a : PF) (r : PAs) : PAs := fun ρ => (a ρ).bind fun x => (r ρ).bind fun xs => some (x :: xs)
def fits (n : Nat) : Bool := decide (n < sizeLine)
def pTup (r : PAs) : PF := fun ρ => (r ρ).bind fun xs => if fits xs.length = true then some (.tuple xs) else none
def pLst (r : PAs) : PAs := fun ρ => (r ρ).bind fun xs => if fits xs.length = true then some xs else none
def pOfL (r : PAs) : PF := fun ρ => (r ρ).map PyData.list
def pCall (f : List D → Option D) (r : PAs) : PF := fun ρ => (r ρ).bind f
def pCallL (f : List D → Option (List D)) (r : PAs) : PAs := fun ρ => (r ρ).bind f
def dI (g : Int → Int → D) : D → D → Option D
  | .int a, .int b => some (g a b)
  | _, _ => none
def dIC (C : Int → Int → Bool) (g : Int → Int → D) : D → D → Option D
  | .int a, .int b => if C a b = true then some (g a b) else none
  | _, _ => none
def dAdd := dI fun i j => .int (i + j)
def dSub := dI fun i j => .int (i - j)
def small (i : Int) : Bool := decide (-(2 ^ 64) < i ∧ i < 2 ^ 64)
def dMul := dIC (fun i j => small i || small j) fun i j => .int (i * j)
def Wide (j : Int) : Prop := 0 < j ∧ j.natAbs.log2 < 9000
instance (j : Int) : Decidable (Wide j) := instDecidableAnd
def dDiv := dIC (fun _ j => decide ((0 < j ∧ j < 1073741824) ∨ Wide j)) fun i j => .int (i / j)
theorem wide_of {j : Int} (h : (0 < j ∧ j < 1073741824) ∨ Wide j) : Wide j := by
  rcases h with ⟨h0, h1⟩ | h
  · refine ⟨h0, ?_⟩
    have h30 : j.natAbs.log2 < 30 := (Nat.log2_lt (by omega)).mpr (by omega)
    omega
  · exact h
def dMod := dIC (fun _ j => decide (0 < j)) fun i j => .int (i % j)
def dPow := dIC (fun i j => decide (0 ≤ j ∧ j ≤ 1000000 ∧ i.natAbs < 2 ^ 64)) fun i j => .int (i ^ j.toNat)
def dLt := dI fun i j => .bool (decide (i < j))
def dLe := dI fun i j => .bool (decide (i ≤ j))
def dGt := dI fun i j => .bool (decide (j < i))
def dGe := dI fun i j => .bool (decide (j ≤ i))
def dEq (a b : D) : Option D := if SeqAt.shaped a = true ∧ SeqAt.shaped b = true then some (.bool (PyData.eqv a b)) else none
def dNe (a b : D) : Option D := if SeqAt.shaped a = true ∧ SeqAt.shaped b = true then some (.bool (!PyData.eqv a b)) else none
def isNon : D → Bool
  | .none => true
  | _ => false
def dIsN (a b : D) : Option D := if isNon b = true then some (.bool (isNon a)) else none
def dNotN (a b : D) : Option D := if isNon b = true then some (.bool (!isNon a)) else none
def dIx : D → D → Option D
  | .list ds, .int i => atI ds i
  | .tuple ds, .int i => atI ds i
  | .str z, .int i => if z.length ≤ sizeLine then (atI z.cps.toList i).map fun c => .str ⟨#[c]⟩ else none
  | _, _ => none
def dNeg : D → Option D
  | .int i => some (.int (-i))
  | _ => none
section
variable {X : Cx} {K : PySem.W.Frag}
theorem Rep.hid {O : List Addr} {H H' : Hp} {v : V} {d : D} (r : Rep K (hid O H) v d) (s : Same H H') : Rep K (L2.hid O H') v d := r.mono (hid_same s)
theorem RepAll.hid {O : List Addr} {H H' : Hp} {v : List V} {d : List D} (r : RepAll K (L2.hid O H) v d) (s : Same H H') : RepAll K (L2.hid O H') v d := r.mono (hid_same s)
theorem EnvR.hid {O : List Addr} {H H' : Hp} {σ : St} {ρ : PEnv} (r : EnvR K (L2.hid O H) σ ρ) (s : Same H H') : EnvR K (L2.hid O H') σ ρ := r.mono (hid_same s)
theorem JL.je {e : Expr} {te : TE} {f : PAs} (j : JL X K e te f) : JE X K e te (pOfL f) := ⟨j.pe, by
  intro O σ H ρ d Q ok er hf q
  have hf' : (f ρ).map PyData.list = some d := hf
  cases e1 : f ρ with
  | none => rw [e1] at hf'; cases hf'
  | some ds =>
    rw [e1] at hf'
    cases hf'
    refine j.pu O σ H ρ ds Q ok er e1 fun a xs H' s hn ha r => q _ H' s ?_
    have na : a ∉ O := ok.fresh hn
    exact .lst (SqL.of (by rw [hid_out na]; exact ha)) (r.mono (hid_sub fun b hb => List.mem_cons_of_mem _ hb))⟩
theorem je_var (i : Nat) {x : Str} {pos : Pos} (hN : X.N[i]? = some x := by rfl) (hv : Vis X.env.scope x := by first | exact Or.inl rfl | exact Or.inr (Or.inl rfl) | exact Or.inr (Or.inr rfl)) (hd : (x == ("__debug__" : Str)) = false := by decide)
    (hcd : (x == ("__classdict__" : Str)) = false := by decide) : JE X K (.Name x pos) (tVar i) (pVar i) := ⟨pe_var hN hv hd hcd, by
  intro O σ H ρ d Q ok er hf q
  have hf' : (ρ[i]?).join = some d := hf
  have h2 : ρ[i]? = some (some d) := by
    cases e1 : ρ[i]? with
    | none => rw [e1] at hf'; cases hf'
    | some o => rw [e1] at hf'; rw [show o = some d from hf']
  obtain ⟨v, e2, r⟩ := er i d h2
  exact ⟨v, e2, q v H (Same.refl H) r⟩⟩
theorem pu_con {v : V} {d : D} (h : ∀ H, Rep K H v d) : PuE K (tC v) (pCon d) := by
  intro O σ H ρ d' Q ok er hf q
  cases hf
  exact q v H (Same.refl H) (h _)
theorem je_int {i j pos} : JE X K (.Constant (.int i) j pos) (tC (.int i)) (pCon (.int i)) := ⟨pe_int, pu_con fun _ => .int i⟩
theorem je_bl {b j pos} : JE X K (.Constant (.bool b) j pos) (tC (.bl b)) (pCon (.bool b)) := ⟨pe_bl, pu_con fun _ => .bl b⟩
theorem je_non {j pos} : JE X K (.Constant .none j pos) (tC .non) (pCon .none) := ⟨pe_non, pu_con fun _ => .non⟩
theorem je_str {x j pos} : JE X K (.Constant (.str x) j pos) (tC (.str x)) (pCon (.str x)) := ⟨pe_str, pu_con fun _ => .str x⟩
theorem je_glob {x : Str} {i : Int} {pos : Pos} (hg : Gl X x) (hm : ∃ t, X.mg x = some (.int i t)) (hd : (x == ("__debug__" : Str)) = false := by decide) : JE X K (.Name x pos) (tC (.int i)) (pCon (.int i)) := by
  obtain ⟨t, hm⟩ := hm
  exact ⟨pe_glob hg hm ⟨t, rfl⟩ hd, pu_con fun _ => .int i⟩
section
variable {a b c : Expr} {ta tb tc : TE} {fa fb fc : PF} {pos : Pos} {r r' : R2} {g g' : D → D → Option D}
theorem bind_some' {α β : Type} {o : Option α} {f : α → Option β} {b : β} (h : o.bind f = some b) : ∃ x, o = some x ∧ f x = some b := by
  cases o with
  | none => cases h
  | some x => exact ⟨x, rfl, h⟩
theorem pu_op (hr : PuR K r g) (ha : PuE K ta fa) (hb : PuE K tb fb) : PuE K (tOp r ta tb) (pOp g fa fb) := by
  intro O σ H ρ d Q ok er hf q
  obtain ⟨x, e1, hf⟩ := bind_some' hf
  obtain ⟨y, e2, hf⟩ := bind_some' hf
  refine ha O σ H ρ x _ ok er e1 fun v H1 s1 r1 => ?_
  refine hb O σ H1 ρ y _ (ok.mono s1) (er.hid s1) e2 fun u H2 s2 r2 => ?_
  exact hr O H2 v u x y d Q ((ok.mono s1).mono s2) (r1.hid s2) r2 hf fun w H3 s3 r3 => q w H3 ((s1.trans s2).trans s3) r3
theorem je_op {op : Operator} (ho : OpJ X K (binaryOp op) r g) (ha : JE X K a ta fa) (hb : JE X K b tb fb) : JE X K (.BinOp a op b pos) (tOp r ta tb) (pOp g fa fb) :=
  ⟨pe_op ho.pe ha.pe hb.pe, pu_op ho.pu ha.pu hb.pu⟩
theorem je_cmp {op : CmpOp} (ho : OpJ X K (compareOp op) r g) (ha : JE X K a ta fa) (hb : JE X K b tb fb) (hm : behindInMarks op b = false) : JE X K (.Compare a [op] [b] pos) (tOp r ta tb) (pOp g fa fb) :=
  ⟨pe_cmpR ho.pe ha.pe hb.pe hm, pu_op ho.pu ha.pu hb.pu⟩
theorem rep_bool {H : Hp} {v : V} {d : D} {b : Bool} (r : Rep K H v d) (h : asB d = some b) : v = .bl b := by
  cases r with
  | bl k => cases h; rfl
  | _ => cases h
theorem pu_test {t : TE} {f : PF} (h : PuE K t f) : PuT K (tTest t) (pTest f) := by
  intro O σ H ρ k Q ok er hf q
  obtain ⟨x, e1, hf⟩ := bind_some' hf
  exact h O σ H ρ x _ ok er e1 fun v H1 s1 r1 => ⟨k, rep_bool r1 hf, q H1 s1⟩
theorem jt_cmp {op : CmpOp} (ho : OpJ X K (compareOp op) r g) (ha : JE X K a ta fa) (hb : JE X K b tb fb) (hm : behindInMarks op b = false) : JT X K (.Compare a [op] [b] pos) (tTest (tOp r ta tb)) (pTest (pOp g fa fb)) :=
  ⟨pt_cmpR ho.pe ha.pe hb.pe hm, pu_test (pu_op ho.pu ha.pu hb.pu)⟩
theorem pu_chain (hr : PuR K r g) (hr' : PuR K r' g') (ha : PuE K ta fa) (hb : PuE K tb fb) (hc : PuE K tc fc) : PuE K (tChain r r' ta tb tc) (pChain g g' fa fb fc) := by
  intro O σ H ρ d Q ok er hf q
  obtain ⟨x, e1, hf⟩ := bind_some' hf
  obtain ⟨y, e2, hf⟩ := bind_some' hf
  obtain ⟨z, e3, hf⟩ := bind_some' hf
  obtain ⟨k, e4, hf⟩ := bind_some' hf
  refine ha O σ H ρ x _ ok er e1 fun v H1 s1 r1 => ?_
  refine hb O σ H1 ρ y _ (ok.mono s1) (er.hid s1) e2 fun u H2 s2 r2 => ?_
  have ok2 := (ok.mono s1).mono s2
  refine hr O H2 v u x y z _ ok2 (r1.hid s2) r2 e3 fun w H3 s3 r3 => ⟨k, rep_bool r3 e4, ?_⟩
  have s13 := (s1.trans s2).trans s3
  cases k with
  | true =>
    rw [if_pos rfl] at hf ⊢
    obtain ⟨u', e5, hf⟩ := bind_some' hf
    refine hc O σ H3 ρ u' _ (ok2.mono s3) (er.hid s13) e5 fun w' H4 s4 r4 => ?_
    exact hr' O H4 u w' y u' d Q ((ok2.mono s3).mono s4) (r2.hid (s3.trans s4)) r4 hf fun w2 H5 s5 r5 => q w2 H5 ((s13.trans s4).trans s5) r5
  | false =>
    rw [if_neg Bool.false_ne_true] at hf ⊢
    cases hf
    exact q _ H3 s13 (.bl false)
theorem je_chain {op op' : CmpOp} (ho : OpJ X K (compareOp op) r g) (ho' : OpJ X K (compareOp op') r' g') (ha : JE X K a ta fa) (hb : JE X K b tb fb) (hc : JE X K c tc fc)
    (hm : lastMarks [op, op'] [b, c] = false := by with_unfolding_all rfl) : JE X K (.Compare a [op, op'] [b, c] pos) (tChain r r' ta tb tc) (pChain g g' fa fb fc) := ⟨pe_chain ho.pe ho'.pe ha.pe hb.pe hc.pe hm, pu_chain ho.pu ho'.pu ha.pu hb.pu hc.pu⟩
end
theorem pur_I0 {g : Int → Int → V} {g' : Int → Int → D} (h : ∀ i j H, Rep K H (g i j) (g' i j)) : PuR K (rI0 g) (dI g') := by
  intro O H x y a b d Q ok ra rb hg q
  cases ra with
  | int i =>
    cases rb with
    | int j =>
      cases hg
      exact ⟨i, j, rfl, rfl, q _ H (Same.refl H) (h i j _)⟩
    | _ => cases hg
  | _ => cases rb <;> cases hg
theorem pur_I {C : Int → Int → Prop} {C' : Int → Int → Bool} {g : Int → Int → V} {g' : Int → Int → D} (hC : ∀ i j, C' i j = true → C i j) (h : ∀ i j H, Rep K H (g i j) (g' i j)) : PuR K (rI C g) (dIC C' g') := by
  intro O H x y a b d Q ok ra rb hg q
  cases ra with
  | int i =>
    cases rb with
    | int j =>
      have hg' : (if C' i j = true then some (g' i j) else none) = some d := hg
      by_cases hc : C' i j = true
      · rw [if_pos hc] at hg'
        cases hg'
        exact ⟨i, j, rfl, rfl, hC i j hc, q _ H (Same.refl H) (h i j _)⟩
      · rw [if_neg hc] at hg'
        cases hg'
    | _ => cases hg
  | _ => cases rb <;> cases hg
theorem jo_add : OpJ X K (binaryOp .Add) (rI0 fun i j => .int (i + j)) dAdd := ⟨op_add, pur_I0 fun i j H => .int _⟩
theorem jo_sub : OpJ X K (binaryOp .Sub) (rI0 fun i j => .int (i - j)) dSub := ⟨op_sub, pur_I0 fun i j H => .int _⟩
theorem jo_mul : OpJ X K (binaryOp .Mult) (rI CMul fun i j => .int (i * j)) dMul := ⟨op_mul, pur_I (fun i j h => by
  rw [Bool.or_eq_true] at h
  exact h.imp (fun z => of_decide_eq_true z) (fun z => of_decide_eq_true z)) fun i j H => .int _⟩
theorem op_fdivW : OpR X (binaryOp .FloorDiv) (rI (fun _ j => Wide j) fun i j => .int (i / j)) := opI fun i j _ _ _ _ _ hc q => by
  have h1 : (0 : Int) < j := hc.1
  exact floordiv_int (by omega) (by rw [Int.fdiv_eq_ediv_of_nonneg i (by omega)]; exact q) (.inl (PyProof.noPylong_of_log2 hc.2))
theorem jo_div : OpJ X K (binaryOp .FloorDiv) (rI (fun _ j => Wide j) fun i j => .int (i / j)) dDiv := ⟨op_fdivW, pur_I (fun i j h => wide_of (of_decide_eq_true h)) fun i j H => .int _⟩
theorem jo_mod : OpJ X K (binaryOp .Mod) (rI (fun _ j => 0 < j) fun i j => .int (i % j)) dMod := ⟨op_mod, pur_I (fun i j h => of_decide_eq_true h) fun i j H => .int _⟩
theorem jo_pow : OpJ X K (binaryOp .Pow) (rI CPow fun i j => .int (i ^ j.toNat)) dPow := ⟨op_pow, pur_I (fun i j h => (of_decide_eq_true h : 0 ≤ j ∧ j ≤ 1000000 ∧ i.natAbs < 2 ^ 64)) fun i j H => .int _⟩
theorem jo_lt : OpJ X K (compareOp .Lt) (rI0 fun i j => .bl (decide (i < j))) dLt := ⟨op_lt, pur_I0 fun i j H => .bl _⟩
theorem jo_le : OpJ X K (compareOp .LtE) (rI0 fun i j => .bl (decide (i ≤ j))) dLe := ⟨op_le, pur_I0 fun i j H => .bl _⟩
theorem jo_gt : OpJ X K (compareOp .Gt) (rI0 fun i j => .bl (decide (j < i))) dGt := ⟨op_gt, pur_I0 fun i j H => .bl _⟩
def rEqD (K : PySem.W.Frag) : R2 := fun x y H Q => ∃ d e, Rep K H x d ∧ Rep K H y e ∧ SeqAt.shaped d = true ∧ SeqAt.shaped e = true ∧ Q (.bl (PyData.eqv d e)) H
def rNeD (K : PySem.W.Frag) : R2 := fun x y H Q => ∃ d e, Rep K H x d ∧ Rep K H y e ∧ SeqAt.shaped d = true ∧ SeqAt.shaped e = true ∧ Q (.bl (!PyData.eqv d e)) H
theorem jo_eq (hK : X.K = K) (hu : X.A.units + 64 < cLine) : OpJ X K (compareOp .Eq) (rEqD K) dEq := ⟨by subst hK; exact op_eqD hu, by
  intro O H x y a b d Q ok ra rb hg q
  unfold dEq at hg
  by_cases hc : SeqAt.shaped a = true ∧ SeqAt.shaped b = true
  · rw [if_pos hc] at hg
    cases hg
    exact ⟨a, b, ra.mono hid_le, rb.mono hid_le, hc.1, hc.2, q _ H (Same.refl H) (.bl _)⟩
  · rw [if_neg hc] at hg
    cases hg⟩
theorem jo_ne (hK : X.K = K) (hu : X.A.units + 64 < cLine) : OpJ X K (compareOp .NotEq) (rNeD K) dNe := ⟨by subst hK; exact op_neD hu, by
  intro O H x y a b d Q ok ra rb hg q
  unfold dNe at hg
  by_cases hc : SeqAt.shaped a = true ∧ SeqAt.shaped b = true
  · rw [if_pos hc] at hg
    cases hg
    exact ⟨a, b, ra.mono hid_le, rb.mono hid_le, hc.1, hc.2, q _ H (Same.refl H) (.bl _)⟩
  · rw [if_neg hc] at hg
    cases hg⟩
theorem isNon_rep {H : Hp} {v : V} {d : D} (r : Rep K H v d) : decide (v = .non) = isNon d := by
  cases r <;> simp [isNon]
theorem jo_isN : OpJ X K (compareOp .Is) (fun x y H Q => y = .non ∧ Q (.bl (decide (x = .non))) H) dIsN := ⟨op_isN, by
  intro O H x y a b d Q ok ra rb hg q
  unfold dIsN at hg
  by_cases hc : isNon b = true
  · rw [if_pos hc] at hg
    cases hg
    have e : y = .non := of_decide_eq_true (by rw [isNon_rep rb]; exact hc)
    refine ⟨e, q _ H (Same.refl H) ?_⟩
    rw [isNon_rep ra]
    exact .bl _
  · rw [if_neg hc] at hg
    cases hg⟩
theorem RepAll.length {H : Hp} : ∀ {xs : List V} {ds : List D}, RepAll K H xs ds → xs.length = ds.length
  | _, _, .nil => rfl
  | _, _, .cons _ r => by simp [RepAll.length r]
theorem RepAll.get {H : Hp} : ∀ {xs : List V} {ds : List D} {i : Nat} {d : D}, RepAll K H xs ds → ds[i]? = some d → ∃ x, xs[i]? = some x ∧ Rep K H x d
  | _, _, _, _, .nil, e => by simp at e
  | _, _, 0, _, .cons r _, e => by simp at e; subst e; exact ⟨_, rfl, r⟩
  | _, _, i + 1, d, .cons _ t, e => by
    obtain ⟨u, h1, h2⟩ := RepAll.get (i := i) (d := d) t (by simpa using e)
    exact ⟨u, by simpa using h1, h2⟩
theorem RepAll.getX {H : Hp} : ∀ {xs : List V} {ds : List D} {i : Nat} {x : V}, RepAll K H xs ds → xs[i]? = some x → ∃ d, ds[i]? = some d ∧ Rep K H x d
  | _, _, _, _, .nil, e => by simp at e
  | _, _, 0, _, .cons r _, e => by simp at e; subst e; exact ⟨_, rfl, r⟩
  | _, _, i + 1, d, .cons _ t, e => by
    obtain ⟨u, h1, h2⟩ := RepAll.getX (i := i) (x := d) t (by simpa using e)
    exact ⟨u, by simpa using h1, h2⟩
theorem RepAll.atI {H : Hp} {xs : List V} {ds : List D} {i : Int} {d : D} (r : RepAll K H xs ds) (h : L2.atI ds i = some d) : ∃ x, L2.atI xs i = some x ∧ Rep K H x d := by
  unfold L2.atI at h ⊢
  obtain ⟨j, e1, e2⟩ := bind_some' h
  obtain ⟨x, e3, rx⟩ := r.get e2
  exact ⟨x, by rw [r.length, e1]; exact e3, rx⟩
theorem RepAll.set {H : Hp} {x : V} {d : D} (q : Rep K H x d) : ∀ {xs : List V} {ds : List D} (i : Nat), RepAll K H xs ds → RepAll K H (xs.set i x) (ds.set i d)
  | _, _, _, .nil => .nil
  | _, _, 0, .cons _ t => .cons q t
  | _, _, i + 1, .cons p t => .cons p (RepAll.set q i t)
theorem RepAll.append {H : Hp} : ∀ {xs ys : List V} {ds es : List D}, RepAll K H xs ds → RepAll K H ys es → RepAll K H (xs ++ ys) (ds ++ es)
  | _, _, _, _, .nil, s => s
  | _, _, _, _, .cons r t, s => .cons r (RepAll.append t s)
theorem RepAll.take {H : Hp} : ∀ {xs : List V} {ds : List D} (n : Nat), RepAll K H xs ds → RepAll K H (xs.take n) (ds.take n)
  | _, _, 0, _ => .nil
  | _, _, _ + 1, .nil => .nil
  | _, _, n + 1, .cons r t => .cons r (RepAll.take n t)
theorem RepAll.drop {H : Hp} : ∀ {xs : List V} {ds : List D} (n : Nat), RepAll K H xs ds → RepAll K H (xs.drop n) (ds.drop n)
  | _, _, 0, r => r
  | _, _, _ + 1, .nil => .nil
  | _, _, n + 1, .cons _ t => RepAll.drop n t
theorem pur_ix : PuR K (rIx K) dIx := by
  intro O H x y a b d Q ok ra rb hg q
  cases rb with
  | int j =>
    cases ra with
    | lst h r =>
      obtain ⟨v, e, rv⟩ := r.atI hg
      exact .inl ⟨_, _, j, v, rfl, rfl, hid_le.seq h, e, q _ H (Same.refl H) rv⟩
    | tup h r =>
      obtain ⟨v, e, rv⟩ := r.atI hg
      exact .inr (.inl ⟨_, _, j, v, rfl, rfl, hid_le.seqT h, e, q _ H (Same.refl H) rv⟩)
    | str z =>
      have hg' : (if z.length ≤ sizeLine then (L2.atI z.cps.toList j).map fun c => PyData.str ⟨#[c]⟩ else none) = some d := hg
      by_cases hz : z.length ≤ sizeLine
      · rw [if_pos hz] at hg'
        cases e : L2.atI z.cps.toList j with
        | none => rw [e] at hg'; cases hg'
        | some c =>
          rw [e] at hg'
          cases hg'
          exact .inr (.inr ⟨z, j, c, rfl, rfl, hz, e, q _ H (Same.refl H) (.str _)⟩)
      · rw [if_neg hz] at hg'
        cases hg'
    | _ => cases hg
  | _ => cases ra <;> cases hg
theorem je_ix {a b : Expr} {ta tb : TE} {fa fb : PF} {pos : Pos} (hK : X.K = K) (ha : JE X K a ta fa) (hb : JE X K b tb fb) (hs : PlainIx b) : JE X K (.Subscript a b pos) (tOp (rIx K) ta tb) (pOp dIx fa fb) :=
  ⟨by subst hK; exact pe_ix ix_seq ha.pe hb.pe hs, pu_op pur_ix ha.pu hb.pu⟩
theorem je_neg {a : Expr} {ta : TE} {fa : PF} {pos : Pos} (ha : JE X K a ta fa) : JE X K (.UnaryOp .USub a pos) (tUn (rU fun i => .int (-i)) ta) (pUn dNeg fa) := ⟨pe_un un_neg ha.pe, by
  intro O σ H ρ d Q ok er hf q
  obtain ⟨x, e1, hf⟩ := bind_some' hf
  refine ha.pu O σ H ρ x _ ok er e1 fun v H1 s1 r1 => ?_
  cases r1 with
  | int i => cases hf; exact ⟨i, rfl, q _ H1 s1 (.int _)⟩
  | _ => cases hf⟩
section
variable {a b c e : Expr} {rest : List Expr} {ta tb tc t : TE} {tA tB' : TT} {fa fb fc f : PF} {pa pb : PB} {pos : Pos}
theorem jt_val (h : JE X K e t f) (he : ∀ whole, isTrue e X.env whole = (do let v ← whole; standAt e.pos; holding [v] (truthy v)) := by intro _; rfl) : JT X K e (tB t) (pTest f) := ⟨pt_val h.pe he, pu_test h.pu⟩
theorem jt_not (ha : JT X K a tA pa) : JT X K (.UnaryOp .Not a pos) (tNot tA) (pNotT pa) := ⟨pt_not ha.pe, by
  intro O σ H ρ k Q ok er hf q
  cases e1 : pa ρ with
  | none => rw [show pNotT pa ρ = (pa ρ).map (!·) from rfl, e1] at hf; cases hf
  | some x =>
    rw [show pNotT pa ρ = (pa ρ).map (!·) from rfl, e1] at hf
    cases hf
    exact ha.pu O σ H ρ x _ ok er e1 fun H1 s1 => q H1 s1⟩
theorem jw_and1 (ha : JT X K a tA pa) : JW X K (.BoolOp .And [a] pos) tA pa := ⟨pw_and1 ha.pe, ha.pu⟩
theorem jw_or1 (ha : JT X K a tA pa) : JW X K (.BoolOp .Or [a] pos) tA pa := ⟨pw_or1 ha.pe, ha.pu⟩
theorem jw_and (ha : JT X K a tA pa) (hb : JW X K (.BoolOp .And (b :: rest) pos) tB' pb) : JW X K (.BoolOp .And (a :: b :: rest) pos) (tAnd tA tB') (pAndT pa pb) := ⟨pw_and ha.pe hb.pe, by
  intro O σ H ρ k Q ok er hf q
  obtain ⟨x, e1, hf⟩ := bind_some' hf
  refine ha.pu O σ H ρ x _ ok er e1 fun H1 s1 => ?_
  cases x with
  | true =>
    rw [if_pos rfl] at hf ⊢
    exact hb.pu O σ H1 ρ k Q (ok.mono s1) (er.hid s1) hf fun H2 s2 => q H2 (s1.trans s2)
  | false =>
    rw [if_neg Bool.false_ne_true] at hf ⊢
    cases hf
    exact q H1 s1⟩
theorem jw_or (ha : JT X K a tA pa) (hb : JW X K (.BoolOp .Or (b :: rest) pos) tB' pb) : JW X K (.BoolOp .Or (a :: b :: rest) pos) (tOr tA tB') (pOrT pa pb) := ⟨pw_or ha.pe hb.pe, by
  intro O σ H ρ k Q ok er hf q
  obtain ⟨x, e1, hf⟩ := bind_some' hf
  refine ha.pu O σ H ρ x _ ok er e1 fun H1 s1 => ?_
  cases x with
  | true =>
    rw [if_pos rfl] at hf ⊢
    cases hf
    exact q H1 s1
  | false =>
    rw [if_neg Bool.false_ne_true] at hf ⊢
    exact hb.pu O σ H1 ρ k Q (ok.mono s1) (er.hid s1) hf fun H2 s2 => q H2 (s1.trans s2)⟩
theorem JW.jt (h : JW X K e tA pa) : JT X K e tA pa := ⟨h.pe.pt, h.pu⟩
theorem je_one {op} (h : JE X K a ta fa) : JE X K (.BoolOp op [a] pos) ta fa := ⟨pe_one h.pe, h.pu⟩
theorem je_and (ha : JE X K a ta fa) (hb : JE X K (.BoolOp .And (b :: rest) pos) tb fb) : JE X K (.BoolOp .And (a :: b :: rest) pos) (tAndV ta tb) (pAnd fa fb) := ⟨pe_and ha.pe hb.pe, by
  intro O σ H ρ k Q ok er hf q
  obtain ⟨x, e1, hf⟩ := bind_some' hf
  obtain ⟨z, e2, hf⟩ := bind_some' hf
  refine ha.pu O σ H ρ x _ ok er e1 fun v H1 s1 r1 => ⟨z, rep_bool r1 e2, ?_⟩
  cases z with
  | true =>
    rw [if_pos rfl] at hf ⊢
    exact hb.pu O σ H1 ρ k Q (ok.mono s1) (er.hid s1) hf fun v H2 s2 => q v H2 (s1.trans s2)
  | false =>
    rw [if_neg Bool.false_ne_true] at hf ⊢
    cases hf
    exact q _ H1 s1 (.bl _)⟩
theorem je_not (ha : JE X K a ta fa) : JE X K (.UnaryOp .Not a pos) (tNotV ta) (pNot fa) := ⟨pe_not ha.pe, by
  intro O σ H ρ k Q ok er hf q
  obtain ⟨x, e1, hf⟩ := bind_some' hf
  obtain ⟨z, e2, hf⟩ := bind_some' hf
  cases hf
  exact ha.pu O σ H ρ x _ ok er e1 fun v H1 s1 r1 => ⟨z, rep_bool r1 e2, q _ H1 s1 (.bl _)⟩⟩
theorem je_ifExp (hc : JT X K c tA pa) (ha : JE X K a ta fa) (hb : JE X K b tb fb) : JE X K (.IfExp c a b pos) (tIf tA ta tb) (pIf pa fa fb) := ⟨pe_ifExp hc.pe ha.pe hb.pe, by
  intro O σ H ρ k Q ok er hf q
  obtain ⟨x, e1, hf⟩ := bind_some' hf
  refine hc.pu O σ H ρ x _ ok er e1 fun H1 s1 => ?_
  cases x with
  | true =>
    rw [if_pos rfl] at hf ⊢
    exact ha.pu O σ H1 ρ k Q (ok.mono s1) (er.hid s1) hf fun v H2 s2 => q v H2 (s1.trans s2)
  | false =>
    rw [if_neg Bool.false_ne_true] at hf ⊢
    exact hb.pu O σ H1 ρ k Q (ok.mono s1) (er.hid s1) hf fun v H2 s2 => q v H2 (s1.trans s2)⟩
end
section
variable {e : Expr} {es : List Expr} {te : TE} {t : TA} {f : PF} {r : PAs} {pos : Pos}
theorem ja_nil : JA X K [] tNil pNil := ⟨pa_nil, by
  intro O σ H ρ ds Q ok er hf q
  cases hf
  exact q [] H (Same.refl H) .nil⟩
theorem ja_cons (ha : JE X K e te f) (hr : JA X K es t r) (hs : starEach (e :: es) X.env = (false, eval e X.env) :: starEach es X.env := by rfl) : JA X K (e :: es) (tCons te t) (pCons f r) := ⟨pa_cons ha.pe hr.pe hs, by
  intro O σ H ρ ds Q ok er hf q
  obtain ⟨x, e1, hf⟩ := bind_some' hf
  obtain ⟨xs, e2, hf⟩ := bind_some' hf
  cases hf
  refine ha.pu O σ H ρ x _ ok er e1 fun v H1 s1 r1 => ?_
  exact hr.pu O σ H1 ρ xs _ (ok.mono s1) (er.hid s1) e2 fun vs H2 s2 r2 => q (v :: vs) H2 (s1.trans s2) (.cons (r1.hid s2) r2)⟩
theorem fits_le {n : Nat} (h : fits n = true) : n ≤ sizeLine := Nat.le_of_lt (of_decide_eq_true h)
theorem je_tup {x1} (h : JA X K es t r) : JE X K (.Tuple es x1 pos) (tTup t) (pTup r) := ⟨pe_tup h.pe, by
  intro O σ H ρ d Q ok er hf q
  obtain ⟨xs, e1, hf⟩ := bind_some' hf
  by_cases hc : fits xs.length = true
  · rw [if_pos hc] at hf
    cases hf
    refine h.pu O σ H ρ xs _ ok er e1 fun vs H1 s1 r1 => ⟨by rw [r1.length]; exact fits_le hc, fun p hp => ?_⟩
    have sn : Same H1 (upd H1 p (.tup vs)) := Same.new hp
    refine q _ _ (s1.trans sn) (.tup (SqT.of ?_) (r1.hid sn))
    rw [hid_out ((ok.mono s1).fresh hp)]
    exact upd_same
  · rw [if_neg hc] at hf
    cases hf⟩
theorem jl_lst (h : JA X K es t r) : JL X K (.List es pos) (tLst t) (pLst r) := ⟨pe_lst h.pe, by
  intro O σ H ρ d Q ok er hf q
  obtain ⟨xs, e1, hf⟩ := bind_some' hf
  by_cases hc : fits xs.length = true
  · rw [if_pos hc] at hf
    obtain rfl : xs = d := Option.some.inj hf
    refine h.pu O σ H ρ xs _ ok er e1 fun vs H1 s1 r1 => ⟨by rw [r1.length]; exact fits_le hc, fun p hp => ?_⟩
    have sn : Same H1 (upd H1 p (.lst vs)) := Same.new hp
    refine q p vs _ (s1.trans sn) (s1.free hp) upd_same ?_
    exact r1.mono (hid_new hp)
  · rw [if_neg hc] at hf
    cases hf⟩
end
end
def spF (K : PySem.W.Frag) (n : Nat) (f : List D → Option D) : Sp := fun vs H Q _ => vs.length = n ∧ ∃ (O : List Addr) (ds : List D) (d : D), OkO O H ∧ RepAll K (hid O H) vs ds ∧ f ds = some d ∧ ∀ v H', Same H H' → Rep K (hid O H') v d → Q v H'
def Takes (n : Nat) {α : Type} (f : List D → Option α) : Prop := ∀ ds a, f ds = some a → ds.length = n
section
variable {X : Cx} {K : PySem.W.Frag} {k n : Nat} {x : Str} {ps : List Str} {p pos : Pos} {e : Expr} {es : List Expr} {t : TA} {r : PAs}
theorem je_callC {f : List D → Option D} (C : Callee X.prog X.w X.K X.mg X.base k x ps (spF K n f)) (hf : Takes n f) (hr : Room k X.A) (hg : Gl X x) (ha : JA X K (e :: es) t r) (hdb : (x == ("__debug__" : Str)) = false := by decide)
    (hst : starEach (e :: es) X.env = (false, eval e X.env) :: starEach es X.env := by rfl) (hpl : (backTo pos (starEach es X.env)).any (·.1) = false := by rfl) : JE X K (.Call (.Name x p) (e :: es) [] pos) (tCall (spF K n f) [] E0 t) (pCall f r) := ⟨pe_callC C hr hg ha.pe hdb hst hpl, by
  intro O σ H ρ d Q ok er h q
  obtain ⟨ds, e1, h⟩ := bind_some' h
  refine ha.pu O σ H ρ ds _ ok er e1 fun vs H1 s1 r1 => ?_
  rw [List.append_nil]
  exact ⟨by rw [r1.length]; exact hf ds d h, O, ds, d, ok.mono s1, r1, h, fun v H' s' rv => q v H' (s1.trans s') rv⟩⟩
theorem je_callB {id : String} {rc : List V → Hp → VK → Prop} {g : List D → Option D} (hc : CallJ X K (.builtin id) rc g) (hg : Gl X x) (hm : X.mg x = none) (hv : bootBuiltins x = some (.builtin id)) (ha : JA X K (e :: es) t r) (hn : x ≠ "__name__" := by decide) (hdb : (x == ("__debug__" : Str)) = false := by decide)
    (he : starEach (e :: es) X.env = (false, eval e X.env) :: starEach es X.env := by rfl) (hpl : (backTo pos (starEach es X.env)).any (·.1) = false := by rfl) : JE X K (.Call (.Name x p) (e :: es) [] pos) (tCB rc t) (pCall g r) := ⟨pe_callB hc.pe hg hm hv ha.pe hn hdb he hpl, by
  intro O σ H ρ d Q ok er h q
  obtain ⟨ds, e1, h⟩ := bind_some' h
  exact ha.pu O σ H ρ ds _ ok er e1 fun vs H1 s1 r1 => hc.pu O H1 vs ds d Q (ok.mono s1) r1 h fun v H' s' rv => q v H' (s1.trans s') rv⟩
theorem je_callTy {T : String} {rc : List V → Hp → VK → Prop} {g : List D → Option D} (hc : CallJ X K (.type T) rc g) (hg : Gl X x) (hm : X.mg x = none) (hv : bootBuiltins x = some (.type T)) (ha : JA X K (e :: es) t r) (hn : x ≠ "__name__" := by decide) (hdb : (x == ("__debug__" : Str)) = false := by decide)
    (he : starEach (e :: es) X.env = (false, eval e X.env) :: starEach es X.env := by rfl) (hpl : (backTo pos (starEach es X.env)).any (·.1) = false := by rfl) : JE X K (.Call (.Name x p) (e :: es) [] pos) (tCB rc t) (pCall g r) := ⟨pe_callTy hc.pe hg hm hv ha.pe hn hdb he hpl, by
  intro O σ H ρ d Q ok er h q
  obtain ⟨ds, e1, h⟩ := bind_some' h
  exact ha.pu O σ H ρ ds _ ok er e1 fun vs H1 s1 r1 => hc.pu O H1 vs ds d Q (ok.mono s1) r1 h fun v H' s' rv => q v H' (s1.trans s') rv⟩
end
end L2
set_option maxHeartbeats 4000000
namespace L2
open PySem PySem.Spec PyProof.Rows
section
variable {X : Cx} {K : PySem.W.Frag}
def gLen : List D → Option D
  | [.list ds] => some (.int ds.length)
  | [.tuple ds] => some (.int ds.length)
  | _ => none
def gList : List D → Option (List D)
  | [.list ds] => some ds
  | [.tuple ds] => some ds
  | _ => none
def unB : List D → Option (List Bool)
  | [] => some []
  | .bool b :: r => (unB r).bind fun bs => some (b :: bs)
  | _ => none
def gAll : List D → Option D
  | [.list ds] => (unB ds).bind fun bs => some (.bool (bs.all id))
  | _ => none
def gMax : List D → Option D
  | [.int i, .int j] => some (.int (max i j))
  | _ => none
def gMin : List D → Option D
  | [.int i, .int j] => some (.int (min i j))
  | _ => none
def gInt : List D → Option D
  | [.int i] => some (.int i)
  | [.bool b] => some (.int (if b then 1 else 0))
  | _ => none
theorem rep1 {H : Hp} {vs : List V} {d : D} (r : RepAll K H vs [d]) : ∃ v, vs = [v] ∧ Rep K H v d := by
  cases r with
  | cons a b => cases b; exact ⟨_, rfl, a⟩
theorem jc_len (hK : X.K = K) : CallJ X K (.builtin "len") (fun xs H Q => ∃ p ys, xs = [.ref p] ∧ (SqL K H p ys ∨ SqT K H p ys) ∧ Q (.int ys.length) H) gLen := ⟨by subst hK; exact call_len_seq, by
  intro O H vs ds d Q ok r hg q
  unfold gLen at hg
  split at hg
  · rename_i es
    cases hg
    obtain ⟨v, rfl, r1⟩ := rep1 r
    cases r1 with
    | lst h r' => exact ⟨_, _, rfl, .inl (hid_le.seq h), by rw [r'.length]; exact q _ H (Same.refl H) (.int _)⟩
  · rename_i es
    cases hg
    obtain ⟨v, rfl, r1⟩ := rep1 r
    cases r1 with
    | tup h r' => exact ⟨_, _, rfl, .inr (hid_le.seqT h), by rw [r'.length]; exact q _ H (Same.refl H) (.int _)⟩
  · cases hg⟩
theorem unB_rep {H : Hp} : ∀ {vs : List V} {ds : List D} {bs : List Bool}, RepAll K H vs ds → unB ds = some bs → vs = bs.map V.bl
  | _, _, _, .nil, h => by cases h; rfl
  | _, _, _, .cons (.bl b) t, h => by
    obtain ⟨bs, e, h⟩ := bind_some' h
    cases h
    rw [unB_rep t e]
    rfl
  | _, _, _, .cons .non t, h => by cases h
  | _, _, _, .cons (.int _) t, h => by cases h
  | _, _, _, .cons (.str _) t, h => by cases h
  | _, _, _, .cons (.lst _ _) t, h => by cases h
  | _, _, _, .cons (.tup _ _) t, h => by cases h
theorem jc_all (hK : X.K = K) (hh : X.A.handled = none) : CallJ X K (.builtin "all") (fun xs H Q => ∃ (a : Addr) (bs : List Bool), xs = [.ref a] ∧ SqL K H a (bs.map V.bl) ∧ Q (.bl (bs.all id)) H) gAll := ⟨by
  subst hK
  intro pins s σ H xs us Q I r h
  exact call_all pins s σ H xs us Q I r ⟨hh, h⟩, by
  intro O H vs ds d Q ok r hg q
  unfold gAll at hg
  split at hg
  · rename_i es
    obtain ⟨bs, e, hg⟩ := bind_some' hg
    cases hg
    obtain ⟨v, rfl, r1⟩ := rep1 r
    cases r1 with
    | lst h r' =>
      have e2 := unB_rep r' e
      subst e2
      exact ⟨_, bs, rfl, hid_le.seq h, q _ H (Same.refl H) (.bl _)⟩
  · cases hg⟩
theorem jc_int : CallJ X K (.type "int") (fun xs H Q => (∃ i, xs = [.int i] ∧ Q (.int i) H) ∨ ∃ k, xs = [.bl k] ∧ Q (.int (if k then 1 else 0)) H) gInt := ⟨call_int1, by
  intro O H vs ds d Q ok r hg q
  unfold gInt at hg
  split at hg
  · rename_i i
    cases hg
    obtain ⟨v, rfl, r1⟩ := rep1 r
    cases r1
    exact .inl ⟨i, rfl, q _ H (Same.refl H) (.int _)⟩
  · rename_i b
    cases hg
    obtain ⟨v, rfl, r1⟩ := rep1 r
    cases r1
    exact .inr ⟨b, rfl, q _ H (Same.refl H) (.int _)⟩
  · cases hg⟩
def tyD : D → String
  | .none => "NoneType"
  | .bool _ => "bool"
  | .int _ => "int"
  | .str _ => "str"
  | .list _ => "list"
  | .tuple _ => "tuple"
  | .dict [] => "dict"
  | .dict (_ :: _) => "object"
def pIsi (U : String) (f : PF) : PF := fun ρ => (f ρ).bind fun d => some (.bool (subT (tyD d) U))
theorem isi_rep {pins : List (Addr × Obj)} {σ : St} {H : Hp} {s : Shared} {Q : Value → Shared → Prop} {E : Value → Shared → Prop} {A : Around} {x : V} {u : Value} {d : D} {U : String} (I : Inv X pins σ H s) (r : Rep X.K H x d) (rx : RelV x u) (hU : U ∈ ["bool", "int", "str", "list", "tuple"])
    (h : ∀ tk, Q (.bool (subT (tyD d) U)) { s with toks := tk }) : wpAny (model X.prog X.w) A (call (.builtin "isinstance") [u, .type U]) Q E s := by
  cases r with
  | non => exact isinst_ok I rx .non (kit_of X.K "NoneType" U (by simp) hU) h
  | bl b => exact isinst_ok I rx (.bl b) (kit_of X.K "bool" U (by simp) hU) h
  | int i => exact isinst_ok I rx (.int i) (kit_of X.K "int" U (by simp) hU) h
  | str i => exact isinst_ok I rx (.str i) (kit_of X.K "str" U (by simp) hU) h
  | lst q r' =>
    cases rx
    obtain ⟨its, _, pl, _⟩ := I.list q
    exact PySem.W.kia_one PySem.W.kitx_list I.kIn pl.isList.typeIs (kit_of X.K "list" U (by simp) hU) (fun z => nomatch z) h
  | tup q r' =>
    cases rx
    obtain ⟨its, _, pl, _⟩ := I.tuple q
    exact PySem.W.kia_one PySem.W.kitx_tuple I.kIn pl.typeIs (kit_of X.K "tuple" U (by simp) hU) (fun z => nomatch z) h
  | dic e => exact isinst_ok I rx (.dK e) (kit_of X.K "dict" U (by simp) hU) h
  | obj k e _ z =>
    subst z
    have hf : ∀ (ks : List Str) (ds : List D), subT (tyD (.dict (objK ks ds))) U = false := fun ks ds => by
      simp only [List.mem_cons, List.mem_nil_iff, or_false] at hU
      rcases hU with rfl | rfl | rfl | rfl | rfl <;> rfl
    rw [hf] at h
    exact isinst_ok I rx (.ins e k.cl k.ha k.hn k.htk k.hm) (k.ki U hU) h
theorem call_isiD (K : PySem.W.Frag) (hK : X.K = K) : CallR X (.builtin "isinstance") (fun xs H Q => ∃ x d U, xs = [x, .ty U] ∧ Rep K H x d ∧ U ∈ ["bool", "int", "str", "list", "tuple"] ∧ Q (.bl (subT (tyD d) U)) H) := by
  subst hK
  intro pins s σ H xs us Q I r h
  obtain ⟨x, d, U, rfl, rd, hU, q⟩ := h
  obtain ⟨u, u', rfl, rx, ry⟩ := vals2 r
  obtain rfl : u' = Value.type U := ry
  exact isi_rep I rd rx hU fun tk => ⟨.bl _, H, I.tok tk, rfl, q⟩
theorem je_isi {e : Expr} {te : TE} {f : PF} {p p2 pos : Pos} {y : Str} (U : String) (hK : X.K = K) (hU : U ∈ ["bool", "int", "str", "list", "tuple"]) (hg : Gl X "isinstance") (hm : X.mg "isinstance" = none) (hg2 : Gl X y) (hm2 : X.mg y = none) (hv2 : bootBuiltins y = some (.type U)) (ha : JE X K e te f) (hn : y ≠ "__name__" := by decide) (hd : (y == ("__debug__" : Str)) = false := by decide)
    (he : starEach [e, .Name y p2] X.env = (false, eval e X.env) :: starEach [.Name y p2] X.env := by rfl) (he2 : starEach [.Name y p2] X.env = (false, eval (.Name y p2) X.env) :: starEach [] X.env := by rfl) (hpl : (backTo pos (starEach [.Name y p2] X.env)).any (·.1) = false := by rfl) :
    JE X K (.Call (.Name "isinstance" p) [e, .Name y p2] [] pos) (tCB (fun xs H Q => ∃ x d U, xs = [x, .ty U] ∧ Rep K H x d ∧ U ∈ ["bool", "int", "str", "list", "tuple"] ∧ Q (.bl (subT (tyD d) U)) H) (tCons te (tCons (tC (.ty U)) tNil))) (pIsi U f) :=
  ⟨pe_callB (call_isiD K hK) hg hm boot_isinstance (pa_cons ha.pe (pa_cons (pe_bltn hg2 hm2 hv2 rfl hn hd) pa_nil he2) he) (by decide) (by decide) he hpl, by
  intro O σ H ρ d Q ok er h q
  obtain ⟨x, e1, h⟩ := bind_some' h
  cases h
  refine ha.pu O σ H ρ x _ ok er e1 fun v H1 s1 r1 => ?_
  exact ⟨v, x, U, rfl, r1.mono hid_le, hU, q _ H1 s1 (.bl _)⟩⟩
def PuO (K : PySem.W.Frag) (t : TO) (f : PEnv → Option (Option Int)) : Prop := ∀ (O : List Addr) (σ : St) (H : Hp) (ρ : PEnv) (b : Option Int) (Q : Option Int → Hp → Prop), OkO O H → EnvR K (hid O H) σ ρ → f ρ = some b →
  (∀ H', Same H H' → Q b H') → t σ H Q
structure JO (X : Cx) (K : PySem.W.Frag) (e : Option Expr) (t : TO) (f : PEnv → Option (Option Int)) : Prop where
  pe : PO X e t
  pu : PuO K t f
def asI : D → Option Int
  | .int i => some i
  | _ => none
def pNoPart : PEnv → Option (Option Int) := fun _ => some none
def pPart (f : PF) : PEnv → Option (Option Int) := fun ρ => (f ρ).bind fun d => (asI d).bind fun i => some (some i)
theorem jo_none : JO X K none tNoPart pNoPart := ⟨po_none, by
  intro O σ H ρ b Q ok er h q
  cases h
  exact q H (Same.refl H)⟩
theorem jo_some {e : Expr} {te : TE} {f : PF} (h : JE X K e te f) : JO X K (some e) (tPart te) (pPart f) := ⟨po_some h.pe, by
  intro O σ H ρ b Q ok er hf q
  obtain ⟨x, e1, hf⟩ := bind_some' hf
  obtain ⟨i, e2, hf⟩ := bind_some' hf
  cases hf
  refine h.pu O σ H ρ x _ ok er e1 fun v H1 s1 r1 => ?_
  cases r1 with
  | int j => cases e2; exact ⟨_, rfl, q H1 s1⟩
  | _ => cases e2⟩
def cutD (xs : List D) (lo hi : Option Int) : List D := (xs.drop (HT.sIx xs.length 0 lo)).take (HT.sIx xs.length xs.length hi - HT.sIx xs.length 0 lo)
theorem RepAll.cut {H : Hp} {xs : List V} {ds : List D} (r : RepAll K H xs ds) (lo hi : Option Int) : RepAll K H (cutV xs lo hi) (cutD ds lo hi) := by
  unfold cutV cutD
  rw [r.length]
  exact (r.drop _).take _
def asL : D → Option (List D)
  | .list ds => some ds
  | _ => none
def asT : D → Option (List D)
  | .tuple ds => some ds
  | _ => none
def pSl (f : PF) (l u : PEnv → Option (Option Int)) : PAs := fun ρ => (f ρ).bind fun d => (l ρ).bind fun lo => (u ρ).bind fun hi => (asL d).bind fun ds => some (cutD ds lo hi)
theorem jl_slice {e : Expr} {te : TE} {f : PF} {lo hi : Option Expr} {tl th : TO} {fl fh : PEnv → Option (Option Int)} {p2 pos : Pos} (hK : X.K = K) (he : JE X K e te f) (hl : JO X K lo tl fl) (hu : JO X K hi th fh) :
    JL X K (.Subscript e (.Slice lo hi none p2) pos) (tSl (rSlL K) te tl th) (pSl f fl fh) := ⟨by subst hK; exact pe_slice sl_list he.pe hl.pe hu.pe, by
  intro O σ H ρ ds Q ok er hf q
  obtain ⟨x, e1, hf⟩ := bind_some' hf
  obtain ⟨l, e2, hf⟩ := bind_some' hf
  obtain ⟨u, e3, hf⟩ := bind_some' hf
  obtain ⟨es, e4, hf⟩ := bind_some' hf
  cases hf
  refine he.pu O σ H ρ x _ ok er e1 fun v H1 s1 r1 => ?_
  refine hl.pu O σ H1 ρ l _ (ok.mono s1) (er.hid s1) e2 fun H2 s2 => ?_
  refine hu.pu O σ H2 ρ u _ ((ok.mono s1).mono s2) (er.hid (s1.trans s2)) e3 fun H3 s3 => ?_
  have r3 := r1.hid (s2.trans s3)
  cases r3 with
  | lst h r' =>
    cases e4
    refine ⟨_, _, rfl, hid_le.seq h, fun p hp => ?_⟩
    have s03 := (s1.trans s2).trans s3
    exact q p _ _ (s03.trans (Same.new hp)) (s03.free hp) upd_same ((r'.cut l u).mono (hid_new hp))
  | _ => cases e4⟩
def rCatS (K : PySem.W.Frag) : R2 := fun x y H Q => ∃ l b xs zs, x = .ref l ∧ y = .ref b ∧ SqL K H l xs ∧ SqL K H b zs ∧ xs.length + zs.length ≤ sizeLine ∧ ∀ p, H p = none → Q (.ref p) (upd H p (.lst (xs ++ zs)))
theorem op_catS : OpR X (binaryOp .Add) (rCatS X.K) := by
  intro pins s σ H x y v u Q I rx ry h
  obtain ⟨l, b, xs, zs, rfl, rfl, hH, hB, hz, q⟩ := h
  cases rx
  cases ry
  obtain ⟨its, r, pl, hl⟩ := I.list hH
  obtain ⟨its2, r2, pl2, hl2⟩ := I.list hB
  obtain ⟨⟨cls, dd, data, sl⟩, n, ho, hc, hd, hs⟩ := pl
  obtain ⟨⟨cls2, dd2, data2, sl2⟩, n2, ho2, hc2, hd2, hs2⟩ := pl2
  simp only at hc hd hs hc2 hd2 hs2
  subst hc hd hs hc2 hd2 hs2
  have e : its.toArray ++ its2.toArray = (its ++ its2).toArray := by simp
  refine concat_meets ⟨_, ho, rfl⟩ ⟨_, ho2, rfl⟩ noFill_list_add seq_list_add PySem.F.slot_list_add PySem.F.entry_list_add (PySem.F.args_list_add_2 _ _) (list_addW l b its.toArray its2.toArray n n2 none none sl sl2 (by have := r.length; have := r2.length; simp; omega)) ⟨ho, ho2, ?_⟩
  rw [e]
  exact ⟨.ref _, _, I.lnew (t' := s.toks) (r.append r2) (by rw [List.length_append]; omega), rfl, q _ I.fresh⟩
def pCat (a b : PF) : PAs := fun ρ => (a ρ).bind fun x => (b ρ).bind fun y => (asL x).bind fun xs => (asL y).bind fun ys => if fits (xs.length + ys.length) = true then some (xs ++ ys) else none
theorem jl_cat {a b : Expr} {ta tb : TE} {fa fb : PF} {pos : Pos} (hK : X.K = K) (ha : JE X K a ta fa) (hb : JE X K b tb fb) : JL X K (.BinOp a .Add b pos) (tOp (rCatS K) ta tb) (pCat fa fb) := ⟨by subst hK; exact pe_op op_catS ha.pe hb.pe, by
  intro O σ H ρ ds Q ok er hf q
  obtain ⟨x, e1, hf⟩ := bind_some' hf
  obtain ⟨y, e2, hf⟩ := bind_some' hf
  obtain ⟨xs, e3, hf⟩ := bind_some' hf
  obtain ⟨ys, e4, hf⟩ := bind_some' hf
  by_cases hc : fits (xs.length + ys.length) = true
  · rw [if_pos hc] at hf
    cases hf
    refine ha.pu O σ H ρ x _ ok er e1 fun v H1 s1 r1 => ?_
    refine hb.pu O σ H1 ρ y _ (ok.mono s1) (er.hid s1) e2 fun u H2 s2 r2 => ?_
    have r1' := r1.hid s2
    cases r1' with
    | lst h r' =>
      cases e3
      cases r2 with
      | lst h2 r2' =>
        cases e4
        refine ⟨_, _, _, _, rfl, rfl, hid_le.seq h, hid_le.seq h2, by rw [r'.length, r2'.length]; exact fits_le hc, fun p hp => ?_⟩
        have s02 := s1.trans s2
        exact q p _ _ (s02.trans (Same.new hp)) (s02.free hp) upd_same ((r'.append r2').mono (hid_new hp))
      | _ => cases e4
    | _ => cases e3
  · rw [if_neg hc] at hf
    cases hf⟩
end
end L2
set_option maxHeartbeats 4000000
namespace L2
open PySem PySem.Spec PyProof.Rows
def ItOk (K : PySem.W.Frag) (G : Hp) (J : It) (items : List D) : Prop := ∀ (Oc : List Addr) (H' : Hp), OkO Oc H' → Same G (hid Oc H') →
  (∀ i, i < items.length → J.go i H') ∧ (∀ i x H'', i < items.length → J.yld i H' x H'' → ∃ d, items[i]? = some d ∧ Same H' H'' ∧ Rep K (hid Oc H'') x d) ∧ J.stop items.length H'
def PuI (K : PySem.W.Frag) (wi : TI) (f : PAs) : Prop := ∀ (O : List Addr) (σ : St) (H : Hp) (ρ : PEnv) (items : List D) (R : It → Hp → Prop), OkO O H → EnvR K (hid O H) σ ρ → f ρ = some items →
  (∀ J H1, Same H H1 → ItOk K (hid O H1) J items → R J H1) → wi σ H R
structure JI (X : Cx) (K : PySem.W.Frag) (tg e : Expr) (wi : TI) (f : PAs) : Prop where
  pe : PI X tg e wi
  pu : PuI K wi f
def pItL (f : PF) : PAs := fun ρ => (f ρ).bind asL
def pItT (f : PF) : PAs := fun ρ => (f ρ).bind asT
def rangeD (lo : Int) (n : Nat) : List D := (List.range n).map fun i => .int (lo + (i : Nat))
def gRange1 : List D → Option (List D)
  | [.int j] => if -(2 ^ 62) ≤ j ∧ j < 2 ^ 62 then some (rangeD 0 j.toNat) else none
  | _ => none
def enumD (ds : List D) : List D := ds.zipIdx.map fun p => .tuple [.int (p.2 : Nat), p.1]
def gEnum : List D → Option (List D)
  | [.list ds] => some (enumD ds)
  | _ => none
def zipD (xs ys : List D) : List D := List.zipWith (fun a b => .tuple [a, b]) xs ys
def gZip : List D → Option (List D)
  | [.list xs, .list ys] => some (zipD xs ys)
  | _ => none
section
variable {X : Cx} {K : PySem.W.Frag} {tg : Expr}
theorem itok_list {G : Hp} {a : Addr} {xs : List V} {ds : List D} (h : SqL K G a xs) (r : RepAll K G xs ds) : ItOk K G (Itl K a) ds := by
  intro Oc H' ok s
  have hq : SqL K H' a xs := (s.trans hid_le).seq h
  have hl := r.length
  refine ⟨fun i hi => ⟨xs, xs[i], hq, by simp [show i < xs.length by omega]⟩, fun i x H'' hi y => ?_, ⟨xs, hq, by omega⟩⟩
  obtain ⟨e, y⟩ := y
  subst e
  obtain ⟨d, e, rd⟩ := r.getX (y xs hq)
  exact ⟨d, e, Same.refl _, rd.mono s⟩
theorem rangeD_len (lo : Int) (n : Nat) : (rangeD lo n).length = n := by simp [rangeD]
theorem rangeD_get {lo : Int} {n i : Nat} (h : i < n) : (rangeD lo n)[i]? = some (.int (lo + (i : Nat))) := by simp [rangeD, h]
theorem itok_range {G : Hp} {lo : Int} {n : Nat} : ItOk K G (Itr lo n) (rangeD lo n) := by
  intro Oc H' ok s
  rw [rangeD_len]
  refine ⟨fun i hi => hi, fun i x H'' hi y => ?_, Nat.le_refl _⟩
  obtain ⟨e, y⟩ := y
  subst e y
  exact ⟨_, rangeD_get hi, Same.refl _, .int _⟩
theorem ji_list {l : Expr} {tl : TE} {f : PF} (hK : X.K = K) (h : JE X K l tl f) : JI X K tg l (iList K tl) (pItL f) := ⟨by subst hK; exact pi_list h.pe, by
  intro O σ H ρ items R ok er hf q
  obtain ⟨x, e1, hf⟩ := bind_some' hf
  refine h.pu O σ H ρ x _ ok er e1 fun v H1 s1 r1 => ?_
  cases r1 with
  | lst hq r' => cases hf; exact ⟨_, rfl, ⟨_, hid_le.seq hq⟩, q _ H1 s1 (itok_list hq r')⟩
  | _ => cases hf⟩
theorem ji_range1 {a : Expr} {ta : TA} {r : PAs} {p pos : Pos} (hg : Gl X "range") (hm : X.mg "range" = none) (ha : JA X K [a] ta r) (hs : starEach [a] X.env = [(false, eval a X.env)] := by rfl) : JI X K tg (.Call (.Name "range" p) [a] [] pos) (iRng1 ta) (pCallL gRange1 r) := ⟨pi_range1 hg hm ha.pe hs, by
  intro O σ H ρ items R ok er hf q
  obtain ⟨ds, e1, hf⟩ := bind_some' hf
  refine ha.pu O σ H ρ ds _ ok er e1 fun vs H1 s1 r1 => ?_
  unfold gRange1 at hf
  split at hf
  · rename_i j
    obtain ⟨v, rfl, rv⟩ := rep1 r1
    cases rv
    by_cases hc : -(2 ^ 62) ≤ j ∧ j < 2 ^ 62
    · rw [if_pos hc] at hf
      cases hf
      exact ⟨j, rfl, hc.1, hc.2, q _ H1 s1 itok_range⟩
    · rw [if_neg hc] at hf
      cases hf
  · cases hf⟩
end
def PuG (K : PySem.W.Frag) (g : TG) (bd : D → PEnv → Option PEnv) : Prop := ∀ (O : List Addr) (v : V) (d : D) (σ : St) (H : Hp) (ρ ρ' : PEnv) (Q : St → Hp → Prop), OkO O H → Rep K (hid O H) v d → EnvR K (hid O H) σ ρ → σ.length = ρ.length → bd d ρ = some ρ' →
  (∀ σ', σ'.length = ρ'.length → EnvR K (hid O H) σ' ρ' → Q σ' H) → g v σ H Q
structure JG (X : Cx) (K : PySem.W.Frag) (tg : Expr) (g : TG) (bd : D → PEnv → Option PEnv) : Prop where
  pe : PG X tg g
  pu : PuG K g bd
def bd1 (i : Nat) : D → PEnv → Option PEnv := fun d ρ => some (ρ.set i (some d))
theorem EnvR.set {K : PySem.W.Frag} {H : Hp} {σ : St} {ρ : PEnv} {v : V} {d : D} (e : EnvR K H σ ρ) (hl : σ.length = ρ.length) (r : Rep K H v d) (i : Nat) : EnvR K H (σ.set i (some v)) (ρ.set i (some d)) := fun j d' h => by
  by_cases hj : i = j
  · subst hj
    by_cases hi : i < ρ.length
    · rw [List.getElem?_set_self hi] at h
      cases h
      exact ⟨v, by rw [List.getElem?_set_self (by omega)], r⟩
    · rw [List.getElem?_eq_none (by simp; omega)] at h
      cases h
  · rw [List.getElem?_set_ne hj] at h
    obtain ⟨u, e1, r1⟩ := e j d' h
    exact ⟨u, by rw [List.getElem?_set_ne hj]; exact e1, r1⟩
section
variable {X : Cx} {K : PySem.W.Frag} {pos : Pos}
theorem jg_name {i : Nat} {x : Str} (hN : X.N.Nodup) (hi : X.N[i]? = some x) (hx : Loc X.env.scope x) (hf : X.fn x = true ∨ X.env.scope.names.lookup x = some .local := by first | exact .inl rfl | exact .inr rfl | assumption) : JG X K (.Name x pos) (gName i) (bd1 i) := ⟨pg_name hN hi hx hf, by
  intro O v d σ H ρ ρ' Q ok r er hl hb q
  cases hb
  exact q _ (by simp [hl]) (er.set hl r i)⟩
end
def compP (bd : D → PEnv → Option PEnv) (pt : PB) (fe : PF) (ρ0 : PEnv) : List D → Option (List D)
  | [] => some []
  | d :: ds => (bd d ρ0).bind fun ρ1 => (pt ρ1).bind fun b => if b = true then (fe ρ1).bind fun e => (compP bd pt fe ρ0 ds).bind fun r => some (e :: r) else compP bd pt fe ρ0 ds
def compEnv (n : Nat) (is : List Nat) (ρ : PEnv) : PEnv := List.replicate n none ++ is.map fun i => (ρ[i]?).join
def pComp (fi : PAs) (bd : D → PEnv → Option PEnv) (pt : PB) (fe : PF) (n : Nat) (is : List Nat) : PAs := fun ρ => (fi ρ).bind fun items => if fits items.length = true then compP bd pt fe (compEnv n is ρ) items else none
theorem compEnv_r {K : PySem.W.Frag} {H : Hp} {σ : St} {ρ : PEnv} {n : Nat} {fv : List (Nat × Str)} (e : EnvR K H σ ρ) : EnvR K H (compSt n fv σ) (compEnv n (fv.map (·.1)) ρ) := fun i d h => by
  unfold compEnv at h
  by_cases hi : i < n
  · rw [List.getElem?_append_left (by simpa using hi), List.getElem?_replicate, if_pos hi] at h
    cases h
  · have hn : n ≤ i := by omega
    rw [List.getElem?_append_right (by simpa using hn), List.length_replicate, List.getElem?_map, List.getElem?_map] at h
    cases e1 : fv[i - n]? with
    | none => rw [e1] at h; cases h
    | some p =>
      rw [e1] at h
      have h' : (ρ[p.1]?).join = some d := Option.some.inj h
      have h2 : ρ[p.1]? = some (some d) := by
        cases e2 : ρ[p.1]? with
        | none => rw [e2] at h'; cases h'
        | some o => rw [e2] at h'; rw [show o = some d from h']
      obtain ⟨v, e3, r⟩ := e p.1 d h2
      refine ⟨v, ?_, r⟩
      unfold compSt
      rw [List.getElem?_append_right (by simpa using hn), List.length_replicate, List.getElem?_map, e1]
      show some (σ[p.1]?).join = _
      rw [e3]
      rfl
section
variable {K : PySem.W.Frag} {wi : TI} {g : TG} {tc : TT} {te : TE} {fi : PAs} {bd : D → PEnv → Option PEnv} {pt : PB} {fe : PF}
theorem pu_comp (hi : PuI K wi fi) (hg : PuG K g bd) (ht : PuT K tc pt) (he : PuE K te fe) (n : Nat) (fv : List (Nat × Str)) : PuL K (tComp wi g tc te n fv) (pComp fi bd pt fe n (fv.map (·.1))) := by
  intro O σ H ρ total Q ok er hf q
  obtain ⟨items, e1, hf⟩ := bind_some' hf
  by_cases hc : fits items.length = true
  case neg => rw [if_neg hc] at hf; cases hf
  rw [if_pos hc] at hf
  refine hi O σ H ρ items _ ok er e1 fun J H1 s1 it => fun D0 hD0 => ?_
  have hlt : items.length < sizeLine := of_decide_eq_true hc
  have okD : ∀ {H'}, H' D0 ≠ none → Same H1 H' → OkO (D0 :: O) H' := fun {H'} hn s' a ha => by
    rcases List.mem_cons.mp ha with rfl | ha
    · cases e : H' a with
      | none => exact absurd e hn
      | some o => exact ⟨o, rfl⟩
    · exact ((ok.mono s1).mono s') a ha
  have sD : ∀ {H'}, Same H1 H' → Same (hid O H1) (hid (D0 :: O) H') := fun {H'} s' b o e => by
    obtain ⟨n1, e⟩ := hid_some e
    have nb : b ≠ D0 := ne_of_none e hD0
    rw [hid_out (by simp [nb, n1])]
    exact s' b o e
  have er1 : EnvR K (hid O H1) σ ρ := er.hid s1
  have lenE : (compSt n fv σ).length = (compEnv n (fv.map (·.1)) ρ).length := by simp [compSt, compEnv]
  refine comp_n (n := items.length) (fun i ys H' => H' D0 = some (.lst ys) ∧ Same H1 H' ∧ ys.length ≤ i ∧ ∃ es rest, RepAll K (hid (D0 :: O) H') ys es ∧ compP bd pt fe (compEnv n (fv.map (·.1)) ρ) (items.drop i) = some rest ∧ es ++ rest = total)
    ⟨upd_same, Same.new hD0, Nat.zero_le _, [], total, .nil, by simpa using hf, rfl⟩ (fun i ys H' p => p.1) (fun i ys H' hi' p => ((it (D0 :: O) H' (okD (by rw [p.1]; simp) p.2.1) (sD p.2.1)).1 i hi')) ?_ ?_
  · rintro i ys H' x H'' hi' ⟨hD', s', hy, es, rest, rr, hcp, htot⟩ yl
    obtain ⟨d, ed, s'', rd⟩ := (it (D0 :: O) H' (okD (by rw [hD']; simp) s') (sD s')).2.1 i x H'' hi' yl
    have hdrop : items.drop i = d :: items.drop (i + 1) := by
      rw [List.drop_eq_getElem_cons hi']
      congr 1
      exact Option.some.inj ((List.getElem?_eq_getElem hi').symm.trans ed)
    rw [hdrop] at hcp
    obtain ⟨ρ1, eb, hcp⟩ := bind_some' hcp
    obtain ⟨b, et, hcp⟩ := bind_some' hcp
    have s2 := s'.trans s''
    have hD'' := s'' _ _ hD'
    have ok2 : OkO (D0 :: O) H'' := okD (by rw [hD'']; simp) s2
    refine hg (D0 :: O) x d _ H'' _ ρ1 _ ok2 rd ((compEnv_r er1).mono (sD s2)) lenE eb fun σ2 hl2 er2 => ?_
    refine ht (D0 :: O) σ2 H'' ρ1 b _ ok2 er2 et fun H3 s3 => ?_
    have s03 := s2.trans s3
    have hD3 := s3 _ _ hD''
    cases b with
    | false =>
      rw [if_neg Bool.false_ne_true] at hcp ⊢
      exact ⟨hD3, s03, by omega, es, rest, rr.hid (s''.trans s3), hcp, htot⟩
    | true =>
      rw [if_pos rfl] at hcp ⊢
      obtain ⟨e, ee, hcp⟩ := bind_some' hcp
      obtain ⟨r, er', hcp⟩ := bind_some' hcp
      cases hcp
      refine he (D0 :: O) σ2 H3 ρ1 e _ (ok2.mono s3) (er2.hid s3) ee fun v H4 s4 rv => ?_
      have hD4 := s4 _ _ hD3
      have s04 := s03.trans s4
      refine ⟨hD4, by omega, upd_same, ?_, by rw [List.length_append]; show ys.length + 1 ≤ i + 1; omega, es ++ [e], r, ?_, er', by rw [List.append_assoc]; exact htot⟩
      · intro b' o' eb'
        rw [upd_ne (ne_of_none eb' hD0)]
        exact s04 b' o' eb'
      · rw [hid_upd (List.mem_cons_self)]
        exact (rr.hid ((s''.trans s3).trans s4)).append (.cons rv .nil)
  · rintro ys H' ⟨hD', s', hy, es, rest, rr, hcp, htot⟩
    refine ⟨(it (D0 :: O) H' (okD (by rw [hD']; simp) s') (sD s')).2.2, ?_⟩
    rw [List.drop_length] at hcp
    cases hcp
    rw [List.append_nil] at htot
    subst htot
    exact q D0 ys H' (s1.trans s') (s1.free hD0) hD' rr
end
section
variable {X : Cx} {K : PySem.W.Frag} {tg elt iter : Expr} {ifs : List Expr} {scope : Scope} {wi : TI} {g : TG} {tc : TT} {te : TE} {fi : PAs} {bd : D → PEnv → Option PEnv} {pt : PB} {fe : PF}
structure JTs (X : Cx) (K : PySem.W.Frag) (ifs : List Expr) (t : TT) (f : PB) : Prop where
  pe : PTs X ifs t
  pu : PuT K t f
theorem jts_nil : JTs X K [] tTrue pTrue := ⟨pts_nil, by
  intro O σ H ρ b Q ok er h q
  cases h
  exact q H (Same.refl H)⟩
theorem jl_comp {pos : Pos} (own : List Str) (fv : List (Nat × Str)) (hc : X.calm = true) (hi : JI X K tg iter wi fi) (fo : FvOk X scope fv) (gk : GKeep own.length g)
    (bg : ∀ fp pins s H, JG (cxComp X (own ++ fv.map (·.2)) scope (clF X.env scope.names []) fp pins s H) K tg g bd)
    (bt : ∀ fp pins s H, JTs (cxComp X (own ++ fv.map (·.2)) scope (clF X.env scope.names []) fp pins s H) K ifs tc pt)
    (be : ∀ fp pins s H, JE (cxComp X (own ++ fv.map (·.2)) scope (clF X.env scope.names []) fp pins s H) K elt te fe)
    (kind : scope.kind = .function) (cell : ∀ y ∈ scope.names, y.2 ≠ .cell) (names : ∀ x ∈ scope.names, x.2 = .local → scope.names.lookup x.1 = some .local)
    (free : freeOk X scope = true)
    (hs : ∀ x, foldedSetIterable iter X.env x = pure x := by intro _; rfl) :
    JL X K (.ListComp elt [⟨tg, iter, ifs, 0⟩] scope pos) (tComp wi g tc te own.length fv) (pComp fi bd pt fe own.length (fv.map (·.1))) :=
  ⟨pe_comp own fv hc hi.pe fo gk (fun fp pins s H => (bg fp pins s H).pe) (fun fp pins s H => (bt fp pins s H).pe) (fun fp pins s H => (be fp pins s H).pe) kind cell names free hs,
   pu_comp hi.pu (bg [] [] X.s₀ X.H₀).pu (bt [] [] X.s₀ X.H₀).pu (be [] [] X.s₀ X.H₀).pu _ _⟩
end
end L2
set_option maxHeartbeats 4000000
namespace L2
open PySem PySem.Spec PyProof.Rows
inductive Cn where
  | obj (ks : List Str) (ds : List D)
  | lst (ds : List D)
  | dct (kvs : List (Int × D))
def Cn.view : Cn → Option D
  | .obj ks ds => some (.dict (objK ks ds))
  | .lst ds => some (.list ds)
  | .dct _ => none
inductive Sl where
  | no
  | sh (d : D)
  | ow (ds : List D)
  | on (dss : List (List D))
  | tr (a : Addr) (c : Cn)
abbrev SEnv := List Sl
def Sl.view : Sl → Option D
  | .no => none
  | .sh d => some d
  | .ow ds => some (.list ds)
  | .on dss => some (.list (dss.map .list))
  | .tr _ c => c.view
def Sl.mask : Sl → Option D
  | .sh d => some d
  | _ => none
def full (ρ : SEnv) : PEnv := ρ.map Sl.view
def masked (ρ : SEnv) : PEnv := ρ.map Sl.mask
theorem refs_inj {H : Hp} {a : Addr} {ps qs : List Addr} (e : H a = some (.lst (ps.map V.ref))) (e' : H a = some (.lst (qs.map V.ref))) : ps = qs := by
  rw [e] at e'
  have : ps.map V.ref = qs.map V.ref := by injection e' with e'; injection e'
  exact (List.map_inj_right fun x y z => by injection z).mp this
inductive Inner (K : PySem.W.Frag) (G H : Hp) : List Addr → List (List D) → Prop
  | nil : Inner K G H [] []
  | cons {p : Addr} {xs : List V} {ds : List D} {ps : List Addr} {dss : List (List D)} : H p = some (.lst xs) → RepAll K G xs ds → Inner K G H ps dss → Inner K G H (p :: ps) (ds :: dss)
section
variable {K : PySem.W.Frag} {G G' H H' : Hp}
theorem Inner.mem {ps : List Addr} {dss : List (List D)} (i : Inner K G H ps dss) : ∀ a ∈ ps, ∃ xs, H a = some (.lst xs) := by
  induction i with
  | nil => intro a h; cases h
  | cons e _ _ ih =>
    intro b h
    rcases List.mem_cons.mp h with rfl | h
    · exact ⟨_, e⟩
    · exact ih b h
theorem Inner.mono {ps : List Addr} {dss : List (List D)} (i : Inner K G H ps dss) (g : Same G G') (h : ∀ a ∈ ps, ∀ o, H a = some o → H' a = some o) : Inner K G' H' ps dss := by
  induction i with
  | nil => exact .nil
  | cons e r _ ih => exact .cons (h _ List.mem_cons_self _ e) (r.mono g) (ih fun a ha => h a (List.mem_cons_of_mem _ ha))
theorem Inner.full {ps : List Addr} {dss : List (List D)} (i : Inner K G H ps dss) (g : Same G G') (h : ∀ a ∈ ps, ∀ o, H a = some o → G' a = some o) : RepAll K G' (ps.map V.ref) (dss.map .list) := by
  induction i with
  | nil => exact .nil
  | cons e r _ ih => exact .cons (.lst (SqL.of (h _ List.mem_cons_self _ e)) (r.mono g)) (ih fun a ha => h a (List.mem_cons_of_mem _ ha))
end
def isOwn : HO → Bool
  | .lst _ => true
  | .ins _ _ _ => true
  | .dK _ => true
  | _ => false
def Held (K : PySem.W.Frag) (G H : Hp) (a : Addr) : Cn → Prop
  | .obj ks ds => ∃ C dx fs, ObK K C ∧ H a = some (.ins C dx fs) ∧ fs.map (·.1) = ks ∧ RepAll K G (fs.map (·.2)) ds
  | .lst ds => ∃ xs, H a = some (.lst xs) ∧ RepAll K G xs ds
  | .dct kvs => ∃ ps : List (Int × V), H a = some (.dK (ps.map fun p => (Sum.inl p.1, p.2))) ∧ ps.map (·.1) = kvs.map (·.1) ∧ RepAll K G (ps.map (·.2)) (kvs.map (·.2))
theorem Held.own {K : PySem.W.Frag} {G H : Hp} {a : Addr} {c : Cn} (h : Held K G H a c) : ∃ o, H a = some o ∧ isOwn o = true := by
  cases c with
  | obj ks ds => obtain ⟨C, dx, fs, _, e, _⟩ := h; exact ⟨_, e, rfl⟩
  | lst ds => obtain ⟨xs, e, _⟩ := h; exact ⟨_, e, rfl⟩
  | dct kvs => obtain ⟨ps, e, _⟩ := h; exact ⟨_, e, rfl⟩
theorem Held.mono {K : PySem.W.Frag} {G G' H H' : Hp} {a : Addr} {c : Cn} (h : Held K G H a c) (g : Same G G') (e : ∀ o, H a = some o → H' a = some o) : Held K G' H' a c := by
  cases c with
  | obj ks ds => obtain ⟨C, dx, fs, k, q, z, r⟩ := h; exact ⟨C, dx, fs, k, e _ q, z, r.mono g⟩
  | lst ds => obtain ⟨xs, q, r⟩ := h; exact ⟨xs, e _ q, r.mono g⟩
  | dct kvs => obtain ⟨ps, q, z, r⟩ := h; exact ⟨ps, e _ q, z, r.mono g⟩
theorem Held.rep {K : PySem.W.Frag} {G G' H : Hp} {a : Addr} {c : Cn} {d : D} (h : Held K G H a c) (g : Same G G') (e : ∀ o, H a = some o → G' a = some o) (v : c.view = some d) : Rep K G' (.ref a) d := by
  cases c with
  | obj ks ds => obtain ⟨C, dx, fs, k, q, rfl, r⟩ := h; cases v; exact .obj k (e _ q) (r.mono g) rfl
  | lst ds => obtain ⟨xs, q, r⟩ := h; cases v; exact .lst (SqL.of (e _ q)) (r.mono g)
  | dct kvs => cases v
inductive Slots (K : PySem.W.Frag) (G H : Hp) : St → SEnv → List Addr → Prop
  | nil : Slots K G H [] [] []
  | no {v : Option V} {σ : St} {ρ : SEnv} {O : List Addr} : Slots K G H σ ρ O → Slots K G H (v :: σ) (.no :: ρ) O
  | sh {v : V} {d : D} {σ : St} {ρ : SEnv} {O : List Addr} : Rep K G v d → Slots K G H σ ρ O → Slots K G H (some v :: σ) (.sh d :: ρ) O
  | ow {a : Addr} {xs : List V} {ds : List D} {σ : St} {ρ : SEnv} {O : List Addr} : H a = some (.lst xs) → RepAll K G xs ds → Slots K G H σ ρ O → Slots K G H (some (.ref a) :: σ) (.ow ds :: ρ) (a :: O)
  | on {a : Addr} {ps : List Addr} {dss : List (List D)} {σ : St} {ρ : SEnv} {O : List Addr} : H a = some (.lst (ps.map V.ref)) → Inner K G H ps dss → Slots K G H σ ρ O → Slots K G H (some (.ref a) :: σ) (.on dss :: ρ) (a :: (ps ++ O))
  | tr {a : Addr} {c : Cn} {σ : St} {ρ : SEnv} {O : List Addr} : Held K G H a c → Slots K G H σ ρ O → Slots K G H (some (.ref a) :: σ) (.tr a c :: ρ) (a :: O)
section
variable {K : PySem.W.Frag} {G G' H H' : Hp} {σ : St} {ρ : SEnv} {O : List Addr}
theorem Slots.len (s : Slots K G H σ ρ O) : σ.length = ρ.length := by
  induction s with
  | nil => rfl
  | no _ ih => simp [ih]
  | sh _ _ ih => simp [ih]
  | ow _ _ _ ih => simp [ih]
  | on _ _ _ ih => simp [ih]
  | tr _ _ ih => simp [ih]
theorem Slots.mem (s : Slots K G H σ ρ O) : ∀ a ∈ O, ∃ o, H a = some o ∧ isOwn o = true := by
  induction s with
  | nil => intro a h; cases h
  | no _ ih => exact ih
  | sh _ _ ih => exact ih
  | ow e _ _ ih =>
    intro b h
    rcases List.mem_cons.mp h with rfl | h
    · exact ⟨_, e, rfl⟩
    · exact ih b h
  | tr e _ ih =>
    intro b h
    rcases List.mem_cons.mp h with rfl | h
    · exact e.own
    · exact ih b h
  | on e i _ ih =>
    intro b h
    rcases List.mem_cons.mp h with rfl | h
    · exact ⟨_, e, rfl⟩
    · rcases List.mem_append.mp h with h | h
      · obtain ⟨xs, e⟩ := i.mem b h
        exact ⟨_, e, rfl⟩
      · exact ih b h
theorem Slots.mono (s : Slots K G H σ ρ O) (g : Same G G') (h : ∀ a ∈ O, ∀ o, H a = some o → H' a = some o) : Slots K G' H' σ ρ O := by
  induction s with
  | nil => exact .nil
  | no _ ih => exact .no (ih h)
  | sh r _ ih => exact .sh (r.mono g) (ih h)
  | ow e r _ ih => exact .ow (h _ List.mem_cons_self _ e) (r.mono g) (ih fun a ha => h a (List.mem_cons_of_mem _ ha))
  | tr e _ ih => exact .tr (e.mono g (h _ List.mem_cons_self)) (ih fun a ha => h a (List.mem_cons_of_mem _ ha))
  | on e i _ ih => exact .on (h _ List.mem_cons_self _ e) (i.mono g fun a ha => h a (List.mem_cons_of_mem _ (List.mem_append_left _ ha))) (ih fun a ha => h a (List.mem_cons_of_mem _ (List.mem_append_right _ ha)))
theorem Slots.mask (s : Slots K G H σ ρ O) : EnvR K G σ (masked ρ) := by
  induction s with
  | nil => intro i d h; cases h
  | no _ ih =>
    intro i d h
    cases i with
    | zero => cases h
    | succ i => exact ih i d h
  | sh r _ ih =>
    intro i d h
    cases i with
    | zero => cases h; exact ⟨_, rfl, r⟩
    | succ i => exact ih i d h
  | ow _ _ _ ih =>
    intro i d h
    cases i with
    | zero => cases h
    | succ i => exact ih i d h
  | on _ _ _ ih =>
    intro i d h
    cases i with
    | zero => cases h
    | succ i => exact ih i d h
  | tr _ _ ih =>
    intro i d h
    cases i with
    | zero => cases h
    | succ i => exact ih i d h
theorem Slots.full {G' : Hp} (s : Slots K G H σ ρ O) (g : Same G G') (h : ∀ a ∈ O, ∀ o, H a = some o → G' a = some o) : EnvR K G' σ (full ρ) := by
  induction s with
  | nil => intro i d h; cases h
  | no _ ih =>
    intro i d h'
    cases i with
    | zero => cases h'
    | succ i => exact ih h i d h'
  | sh r _ ih =>
    intro i d h'
    cases i with
    | zero => cases h'; exact ⟨_, rfl, r.mono g⟩
    | succ i => exact ih h i d h'
  | ow e r _ ih =>
    intro i d h'
    cases i with
    | zero => cases h'; exact ⟨_, rfl, .lst (SqL.of (h _ List.mem_cons_self _ e)) (r.mono g)⟩
    | succ i => exact ih (fun a ha => h a (List.mem_cons_of_mem _ ha)) i d h'
  | tr e _ ih =>
    intro i d h'
    cases i with
    | zero => exact ⟨_, rfl, e.rep g (h _ List.mem_cons_self) (Option.some.inj h')⟩
    | succ i => exact ih (fun a ha => h a (List.mem_cons_of_mem _ ha)) i d h'
  | on e inn _ ih =>
    intro i d h'
    cases i with
    | zero => cases h'; exact ⟨_, rfl, .lst (SqL.of (h _ List.mem_cons_self _ e)) (inn.full g fun a ha => h a (List.mem_cons_of_mem _ (List.mem_append_left _ ha)))⟩
    | succ i => exact ih (fun a ha => h a (List.mem_cons_of_mem _ (List.mem_append_right _ ha))) i d h'
theorem Slots.setSh {v : V} {d : D} (r : Rep K G v d) : ∀ {σ : St} {ρ : SEnv} {O : List Addr} (i : Nat), Slots K G H σ ρ O → ∃ O', O'.Sublist O ∧ Slots K G H (σ.set i (some v)) (ρ.set i (.sh d)) O'
  | _, _, _, _, .nil => ⟨_, .refl _, .nil⟩
  | _, _, _, 0, .no t => ⟨_, .refl _, .sh r t⟩
  | _, _, _, 0, .sh _ t => ⟨_, .refl _, .sh r t⟩
  | _, _, _, 0, .ow _ _ t => ⟨_, .cons _ (.refl _), .sh r t⟩
  | _, _, _, 0, .on _ _ t => ⟨_, .cons _ (List.sublist_append_right _ _), .sh r t⟩
  | _, _, _, 0, .tr _ t => ⟨_, .cons _ (.refl _), .sh r t⟩
  | _, _, _, i + 1, .no t => by obtain ⟨O', h, s⟩ := Slots.setSh r i t; exact ⟨O', h, .no s⟩
  | _, _, _, i + 1, .sh q t => by obtain ⟨O', h, s⟩ := Slots.setSh r i t; exact ⟨O', h, .sh q s⟩
  | _, _, _, i + 1, .ow e q t => by obtain ⟨O', h, s⟩ := Slots.setSh r i t; exact ⟨_, .cons₂ _ h, .ow e q s⟩
  | _, _, _, i + 1, .on e q t => by obtain ⟨O', h, s⟩ := Slots.setSh r i t; exact ⟨_, .cons₂ _ (List.Sublist.append_left h _), .on e q s⟩
  | _, _, _, i + 1, .tr e t => by obtain ⟨O', h, s⟩ := Slots.setSh r i t; exact ⟨_, .cons₂ _ h, .tr e s⟩
theorem Slots.setOw {a : Addr} {xs : List V} {ds : List D} (e : H a = some (.lst xs)) (r : RepAll K G xs ds) : ∀ {σ : St} {ρ : SEnv} {O : List Addr} (i : Nat), a ∉ O → O.Nodup → Slots K G H σ ρ O →
    ∃ O', (∀ b ∈ O', b = a ∨ b ∈ O) ∧ O'.Nodup ∧ Slots K G H (σ.set i (some (.ref a))) (ρ.set i (.ow ds)) O'
  | _, _, _, _, _, nd, .nil => ⟨[], (fun b h => by cases h), nd, .nil⟩
  | _, _, _, 0, na, nd, .no t => ⟨_, fun b h => List.mem_cons.mp h, List.nodup_cons.mpr ⟨na, nd⟩, .ow e r t⟩
  | _, _, _, 0, na, nd, .sh _ t => ⟨_, fun b h => List.mem_cons.mp h, List.nodup_cons.mpr ⟨na, nd⟩, .ow e r t⟩
  | _, _, _, 0, na, nd, .ow _ _ t => ⟨_, fun b h => (List.mem_cons.mp h).imp id (fun z => List.mem_cons_of_mem _ z), List.nodup_cons.mpr ⟨fun z => na (List.mem_cons_of_mem _ z), (List.nodup_cons.mp nd).2⟩, .ow e r t⟩
  | _, _, _, 0, na, nd, .on _ _ t => ⟨_, fun b h => (List.mem_cons.mp h).imp id (fun z => List.mem_cons_of_mem _ (List.mem_append_right _ z)), List.nodup_cons.mpr ⟨fun z => na (List.mem_cons_of_mem _ (List.mem_append_right _ z)), (List.nodup_append.mp (List.nodup_cons.mp nd).2).2.1⟩, .ow e r t⟩
  | _, _, _, 0, na, nd, .tr _ t => ⟨_, fun b h => (List.mem_cons.mp h).imp id (fun z => List.mem_cons_of_mem _ z), List.nodup_cons.mpr ⟨fun z => na (List.mem_cons_of_mem _ z), (List.nodup_cons.mp nd).2⟩, .ow e r t⟩
  | _, _, _, i + 1, na, nd, .tr q t => by
    have nd' := List.nodup_cons.mp nd
    obtain ⟨O', h, n, s⟩ := Slots.setOw e r i (fun z => na (List.mem_cons_of_mem _ z)) nd'.2 t
    refine ⟨_, fun b hb => ?_, List.nodup_cons.mpr ⟨fun z => ?_, n⟩, .tr q s⟩
    · rcases List.mem_cons.mp hb with rfl | hb
      · exact .inr List.mem_cons_self
      · exact (h b hb).imp id (fun z => List.mem_cons_of_mem _ z)
    · rcases h _ z with z | z
      · exact na (by rw [← z]; exact List.mem_cons_self)
      · exact nd'.1 z
  | _, _, _, i + 1, na, nd, .no t => by obtain ⟨O', h, n, s⟩ := Slots.setOw e r i na nd t; exact ⟨O', h, n, .no s⟩
  | _, _, _, i + 1, na, nd, .sh q t => by obtain ⟨O', h, n, s⟩ := Slots.setOw e r i na nd t; exact ⟨O', h, n, .sh q s⟩
  | _, _, _, i + 1, na, nd, .ow e' q t => by
    have nd' := List.nodup_cons.mp nd
    obtain ⟨O', h, n, s⟩ := Slots.setOw e r i (fun z => na (List.mem_cons_of_mem _ z)) nd'.2 t
    refine ⟨_, fun b hb => ?_, List.nodup_cons.mpr ⟨fun z => ?_, n⟩, .ow e' q s⟩
    · rcases List.mem_cons.mp hb with rfl | hb
      · exact .inr List.mem_cons_self
      · exact (h b hb).imp id (fun z => List.mem_cons_of_mem _ z)
    · rcases h _ z with z | z
      · exact na (by rw [← z]; exact List.mem_cons_self)
      · exact nd'.1 z
  | _, _, _, i + 1, na, nd, .on e' q t => by
    have nd' := List.nodup_cons.mp nd
    have nd2 := List.nodup_append.mp nd'.2
    obtain ⟨O', h, n, s⟩ := Slots.setOw e r i (fun z => na (List.mem_cons_of_mem _ (List.mem_append_right _ z))) nd2.2.1 t
    refine ⟨_, fun b hb => ?_, List.nodup_cons.mpr ⟨fun z => ?_, List.nodup_append.mpr ⟨nd2.1, n, fun x hx y hy hxy => ?_⟩⟩, .on e' q s⟩
    · rcases List.mem_cons.mp hb with rfl | hb
      · exact .inr List.mem_cons_self
      · rcases List.mem_append.mp hb with hb | hb
        · exact .inr (List.mem_cons_of_mem _ (List.mem_append_left _ hb))
        · exact (h b hb).imp id (fun z => List.mem_cons_of_mem _ (List.mem_append_right _ z))
    · rcases List.mem_append.mp z with z | z
      · exact nd'.1 (List.mem_append_left _ z)
      · rcases h _ z with z | z
        · exact na (by rw [← z]; exact List.mem_cons_self)
        · exact nd'.1 (List.mem_append_right _ z)
    · rcases h y hy with z | z
      · exact na (by rw [← z, ← hxy]; exact List.mem_cons_of_mem _ (List.mem_append_left _ hx))
      · exact nd2.2.2 x hx y z hxy
theorem Slots.setOn {a : Addr} {ps : List Addr} {dss : List (List D)} (e : H a = some (.lst (ps.map V.ref))) (r : Inner K G H ps dss) (hap : (a :: ps).Nodup) : ∀ {σ : St} {ρ : SEnv} {O : List Addr} (i : Nat), (∀ b ∈ a :: ps, b ∉ O) → O.Nodup → Slots K G H σ ρ O →
    ∃ O', (∀ b ∈ O', b ∈ a :: ps ∨ b ∈ O) ∧ O'.Nodup ∧ Slots K G H (σ.set i (some (.ref a))) (ρ.set i (.on dss)) O'
  | _, _, _, _, _, nd, .nil => ⟨[], (fun b h => by cases h), nd, .nil⟩
  | _, _, O, 0, na, nd, .no t => ⟨_, fun b h => List.mem_append.mp (show b ∈ (a :: ps) ++ O from h), (List.nodup_append.mpr ⟨hap, nd, fun x hx y hy z => na x hx (by rw [z]; exact hy)⟩ : ((a :: ps) ++ O).Nodup), .on e r t⟩
  | _, _, O, 0, na, nd, .sh _ t => ⟨_, fun b h => List.mem_append.mp (show b ∈ (a :: ps) ++ O from h), (List.nodup_append.mpr ⟨hap, nd, fun x hx y hy z => na x hx (by rw [z]; exact hy)⟩ : ((a :: ps) ++ O).Nodup), .on e r t⟩
  | _, _, _, 0, na, nd, .ow _ _ t => ⟨_, fun b h => (List.mem_append.mp (show b ∈ (a :: ps) ++ _ from h)).imp id (fun z => List.mem_cons_of_mem _ z), (List.nodup_append.mpr ⟨hap, (List.nodup_cons.mp nd).2, fun x hx y hy z => na x hx (by rw [z]; exact List.mem_cons_of_mem _ hy)⟩ : ((a :: ps) ++ _).Nodup), .on e r t⟩
  | _, _, _, 0, na, nd, .on _ _ t => ⟨_, fun b h => (List.mem_append.mp (show b ∈ (a :: ps) ++ _ from h)).imp id (fun z => List.mem_cons_of_mem _ (List.mem_append_right _ z)), (List.nodup_append.mpr ⟨hap, (List.nodup_append.mp (List.nodup_cons.mp nd).2).2.1, fun x hx y hy z => na x hx (by rw [z]; exact List.mem_cons_of_mem _ (List.mem_append_right _ hy))⟩ : ((a :: ps) ++ _).Nodup), .on e r t⟩
  | _, _, _, 0, na, nd, .tr _ t => ⟨_, fun b h => (List.mem_append.mp (show b ∈ (a :: ps) ++ _ from h)).imp id (fun z => List.mem_cons_of_mem _ z), (List.nodup_append.mpr ⟨hap, (List.nodup_cons.mp nd).2, fun x hx y hy z => na x hx (by rw [z]; exact List.mem_cons_of_mem _ hy)⟩ : ((a :: ps) ++ _).Nodup), .on e r t⟩
  | _, _, _, i + 1, na, nd, .tr q t => by
    have nd' := List.nodup_cons.mp nd
    obtain ⟨O', h, n, s⟩ := Slots.setOn e r hap i (fun b hb z => na b hb (List.mem_cons_of_mem _ z)) nd'.2 t
    refine ⟨_, fun b hb => ?_, List.nodup_cons.mpr ⟨fun z => ?_, n⟩, .tr q s⟩
    · rcases List.mem_cons.mp hb with rfl | hb
      · exact .inr List.mem_cons_self
      · exact (h b hb).imp id (fun z => List.mem_cons_of_mem _ z)
    · rcases h _ z with z | z
      · exact na _ z List.mem_cons_self
      · exact nd'.1 z
  | _, _, _, i + 1, na, nd, .no t => by obtain ⟨O', h, n, s⟩ := Slots.setOn e r hap i na nd t; exact ⟨O', h, n, .no s⟩
  | _, _, _, i + 1, na, nd, .sh q t => by obtain ⟨O', h, n, s⟩ := Slots.setOn e r hap i na nd t; exact ⟨O', h, n, .sh q s⟩
  | _, _, _, i + 1, na, nd, .ow e' q t => by
    have nd' := List.nodup_cons.mp nd
    obtain ⟨O', h, n, s⟩ := Slots.setOn e r hap i (fun b hb z => na b hb (List.mem_cons_of_mem _ z)) nd'.2 t
    refine ⟨_, fun b hb => ?_, List.nodup_cons.mpr ⟨fun z => ?_, n⟩, .ow e' q s⟩
    · rcases List.mem_cons.mp hb with rfl | hb
      · exact .inr List.mem_cons_self
      · exact (h b hb).imp id (fun z => List.mem_cons_of_mem _ z)
    · rcases h _ z with z | z
      · exact na _ z List.mem_cons_self
      · exact nd'.1 z
  | _, _, _, i + 1, na, nd, .on e' q t => by
    have nd' := List.nodup_cons.mp nd
    have nd2 := List.nodup_append.mp nd'.2
    obtain ⟨O', h, n, s⟩ := Slots.setOn e r hap i (fun b hb z => na b hb (List.mem_cons_of_mem _ (List.mem_append_right _ z))) nd2.2.1 t
    refine ⟨_, fun b hb => ?_, List.nodup_cons.mpr ⟨fun z => ?_, List.nodup_append.mpr ⟨nd2.1, n, fun x hx y hy hxy => ?_⟩⟩, .on e' q s⟩
    · rcases List.mem_cons.mp hb with rfl | hb
      · exact .inr List.mem_cons_self
      · rcases List.mem_append.mp hb with hb | hb
        · exact .inr (List.mem_cons_of_mem _ (List.mem_append_left _ hb))
        · exact (h b hb).imp id (fun z => List.mem_cons_of_mem _ (List.mem_append_right _ z))
    · rcases List.mem_append.mp z with z | z
      · exact nd'.1 (List.mem_append_left _ z)
      · rcases h _ z with z | z
        · exact na _ z List.mem_cons_self
        · exact nd'.1 (List.mem_append_right _ z)
    · rcases h y hy with z | z
      · exact na y z (by rw [← hxy]; exact List.mem_cons_of_mem _ (List.mem_append_left _ hx))
      · exact nd2.2.2 x hx y z hxy
theorem Slots.setTr {a : Addr} {c : Cn} (e : Held K G H a c) : ∀ {σ : St} {ρ : SEnv} {O : List Addr} (i : Nat), a ∉ O → O.Nodup → Slots K G H σ ρ O →
    ∃ O', (∀ b ∈ O', b = a ∨ b ∈ O) ∧ O'.Nodup ∧ Slots K G H (σ.set i (some (.ref a))) (ρ.set i (.tr a c)) O'
  | _, _, _, _, _, nd, .nil => ⟨[], (fun b h => by cases h), nd, .nil⟩
  | _, _, _, 0, na, nd, .no t => ⟨_, fun b h => List.mem_cons.mp h, List.nodup_cons.mpr ⟨na, nd⟩, .tr e t⟩
  | _, _, _, 0, na, nd, .sh _ t => ⟨_, fun b h => List.mem_cons.mp h, List.nodup_cons.mpr ⟨na, nd⟩, .tr e t⟩
  | _, _, _, 0, na, nd, .ow _ _ t => ⟨_, fun b h => (List.mem_cons.mp h).imp id (fun z => List.mem_cons_of_mem _ z), List.nodup_cons.mpr ⟨fun z => na (List.mem_cons_of_mem _ z), (List.nodup_cons.mp nd).2⟩, .tr e t⟩
  | _, _, _, 0, na, nd, .tr _ t => ⟨_, fun b h => (List.mem_cons.mp h).imp id (fun z => List.mem_cons_of_mem _ z), List.nodup_cons.mpr ⟨fun z => na (List.mem_cons_of_mem _ z), (List.nodup_cons.mp nd).2⟩, .tr e t⟩
  | _, _, _, 0, na, nd, .on _ _ t => ⟨_, fun b h => (List.mem_cons.mp h).imp id (fun z => List.mem_cons_of_mem _ (List.mem_append_right _ z)), List.nodup_cons.mpr ⟨fun z => na (List.mem_cons_of_mem _ (List.mem_append_right _ z)), (List.nodup_append.mp (List.nodup_cons.mp nd).2).2.1⟩, .tr e t⟩
  | _, _, _, i + 1, na, nd, .no t => by obtain ⟨O', h, n, s⟩ := Slots.setTr e i na nd t; exact ⟨O', h, n, .no s⟩
  | _, _, _, i + 1, na, nd, .sh q t => by obtain ⟨O', h, n, s⟩ := Slots.setTr e i na nd t; exact ⟨O', h, n, .sh q s⟩
  | _, _, _, i + 1, na, nd, .ow e' q t => by
    have nd' := List.nodup_cons.mp nd
    obtain ⟨O', h, n, s⟩ := Slots.setTr e i (fun z => na (List.mem_cons_of_mem _ z)) nd'.2 t
    refine ⟨_, fun b hb => ?_, List.nodup_cons.mpr ⟨fun z => ?_, n⟩, .ow e' q s⟩
    · rcases List.mem_cons.mp hb with rfl | hb
      · exact .inr List.mem_cons_self
      · exact (h b hb).imp id (fun z => List.mem_cons_of_mem _ z)
    · rcases h _ z with z | z
      · exact na (by rw [← z]; exact List.mem_cons_self)
      · exact nd'.1 z
  | _, _, _, i + 1, na, nd, .tr q t => by
    have nd' := List.nodup_cons.mp nd
    obtain ⟨O', h, n, s⟩ := Slots.setTr e i (fun z => na (List.mem_cons_of_mem _ z)) nd'.2 t
    refine ⟨_, fun b hb => ?_, List.nodup_cons.mpr ⟨fun z => ?_, n⟩, .tr q s⟩
    · rcases List.mem_cons.mp hb with rfl | hb
      · exact .inr List.mem_cons_self
      · exact (h b hb).imp id (fun z => List.mem_cons_of_mem _ z)
    · rcases h _ z with z | z
      · exact na (by rw [← z]; exact List.mem_cons_self)
      · exact nd'.1 z
  | _, _, _, i + 1, na, nd, .on e' q t => by
    have nd' := List.nodup_cons.mp nd
    have nd2 := List.nodup_append.mp nd'.2
    obtain ⟨O', h, n, s⟩ := Slots.setTr e i (fun z => na (List.mem_cons_of_mem _ (List.mem_append_right _ z))) nd2.2.1 t
    refine ⟨_, fun b hb => ?_, List.nodup_cons.mpr ⟨fun z => ?_, List.nodup_append.mpr ⟨nd2.1, n, fun x hx y hy hxy => ?_⟩⟩, .on e' q s⟩
    · rcases List.mem_cons.mp hb with rfl | hb
      · exact .inr List.mem_cons_self
      · rcases List.mem_append.mp hb with hb | hb
        · exact .inr (List.mem_cons_of_mem _ (List.mem_append_left _ hb))
        · exact (h b hb).imp id (fun z => List.mem_cons_of_mem _ (List.mem_append_right _ z))
    · rcases List.mem_append.mp z with z | z
      · exact nd'.1 (List.mem_append_left _ z)
      · rcases h _ z with z | z
        · exact na (by rw [← z]; exact List.mem_cons_self)
        · exact nd'.1 (List.mem_append_right _ z)
    · rcases h y hy with z | z
      · exact na (by rw [← z, ← hxy]; exact List.mem_cons_of_mem _ (List.mem_append_left _ hx))
      · exact nd2.2.2 x hx y z hxy
theorem Slots.getOw : ∀ {σ : St} {ρ : SEnv} {O : List Addr} {i : Nat} {ds : List D}, Slots K G H σ ρ O → ρ[i]? = some (.ow ds) → ∃ a xs, σ[i]? = some (some (.ref a)) ∧ a ∈ O ∧ H a = some (.lst xs) ∧ RepAll K G xs ds
  | _, _, _, _, _, .nil, h => by cases h
  | _, _, _, 0, _, .no t, h => by cases h
  | _, _, _, 0, _, .sh _ t, h => by cases h
  | _, _, _, 0, _, .ow e r t, h => by cases h; exact ⟨_, _, rfl, List.mem_cons_self, e, r⟩
  | _, _, _, i + 1, _, .no t, h => Slots.getOw (i := i) t h
  | _, _, _, i + 1, _, .sh _ t, h => Slots.getOw (i := i) t h
  | _, _, _, i + 1, _, .ow _ _ t, h => by
    obtain ⟨a, xs, h1, h2, h3⟩ := Slots.getOw (i := i) t h
    exact ⟨a, xs, h1, List.mem_cons_of_mem _ h2, h3⟩
  | _, _, _, 0, _, .on _ _ t, h => by cases h
  | _, _, _, 0, _, .tr _ t, h => by cases h
  | _, _, _, i + 1, _, .tr _ t, h => by
    obtain ⟨a, xs, h1, h2, h3⟩ := Slots.getOw (i := i) t h
    exact ⟨a, xs, h1, List.mem_cons_of_mem _ h2, h3⟩
  | _, _, _, i + 1, _, .on _ _ t, h => by
    obtain ⟨a, xs, h1, h2, h3⟩ := Slots.getOw (i := i) t h
    exact ⟨a, xs, h1, List.mem_cons_of_mem _ (List.mem_append_right _ h2), h3⟩
theorem Slots.write {a : Addr} {ys : List V} {es : List D} (r : RepAll K G ys es) : ∀ {σ : St} {ρ : SEnv} {O : List Addr} {i : Nat} {ds : List D}, O.Nodup → Slots K G H σ ρ O → ρ[i]? = some (.ow ds) → σ[i]? = some (some (.ref a)) →
    Slots K G (upd H a (.lst ys)) σ (ρ.set i (.ow es)) O
  | _, _, _, _, _, _, .nil, h, _ => by cases h
  | _, _, _, 0, _, _, .no t, h, _ => by cases h
  | _, _, _, 0, _, _, .sh _ t, h, _ => by cases h
  | _, _, _, 0, _, nd, .ow e _ t, h, h2 => by
    cases h2
    have nd' := List.nodup_cons.mp nd
    exact .ow upd_same r (t.mono (Same.refl _) fun b hb o e => by rw [upd_ne fun z => nd'.1 (by rw [← z]; exact hb)]; exact e)
  | _, _, _, i + 1, _, nd, .no t, h, h2 => .no (Slots.write (i := i) r nd t h h2)
  | _, _, _, i + 1, _, nd, .sh q t, h, h2 => .sh q (Slots.write (i := i) r nd t h h2)
  | _, _, _, i + 1, _, nd, .ow e q t, h, h2 => by
    have nd' := List.nodup_cons.mp nd
    obtain ⟨b, xs, h3, h4, _⟩ := Slots.getOw (i := i) t h
    have h2' : _ = some (some (V.ref a)) := h2
    rw [List.getElem?_cons_succ, h3] at h2'
    cases h2'
    exact .ow (by rw [upd_ne fun z => nd'.1 (by rw [z]; exact h4)]; exact e) q (Slots.write (i := i) r nd'.2 t h h2)
  | _, _, _, 0, _, _, .on _ _ t, h, _ => by cases h
  | _, _, _, 0, _, _, .tr _ t, h, _ => by cases h
  | _, _, _, i + 1, _, nd, .tr q t, h, h2 => by
    have nd' := List.nodup_cons.mp nd
    obtain ⟨b, xs, h3, h4, _⟩ := Slots.getOw (i := i) t h
    have h2' : _ = some (some (V.ref a)) := h2
    rw [List.getElem?_cons_succ, h3] at h2'
    cases h2'
    exact .tr (q.mono (Same.refl _) fun o e => by rw [upd_ne fun z => nd'.1 (by rw [z]; exact h4)]; exact e) (Slots.write (i := i) r nd'.2 t h h2)
  | _, _, _, i + 1, _, nd, .on e q t, h, h2 => by
    have nd' := List.nodup_cons.mp nd
    have nd2 := List.nodup_append.mp nd'.2
    obtain ⟨b, xs, h3, h4, _⟩ := Slots.getOw (i := i) t h
    have h2' : _ = some (some (V.ref a)) := h2
    rw [List.getElem?_cons_succ, h3] at h2'
    cases h2'
    exact .on (by rw [upd_ne fun z => nd'.1 (by rw [z]; exact List.mem_append_right _ h4)]; exact e) (q.mono (Same.refl _) fun b hb o e => by rw [upd_ne fun z => nd2.2.2 b hb a (by first | exact h4 | (rw [← z]; exact h4)) (by first | exact z | rfl)]; exact e) (Slots.write (i := i) r nd2.2.1 t h h2)
end
structure StR (K : PySem.W.Frag) (H0 : Hp) (O0 : List Addr) (G : Hp) (σ : St) (H : Hp) (ρ : SEnv) : Prop where
  ex : ∃ O, Same H0 H ∧ (∀ a ∈ O, H0 a = none) ∧ O.Nodup ∧ Same G (hid (O0 ++ O) H) ∧ Slots K (hid (O0 ++ O) H) H σ ρ O
structure StV (K : PySem.W.Frag) (H0 : Hp) (O0 : List Addr) (G : Hp) (σ : St) (H : Hp) (ρ : SEnv) (v : V) (s : Sl) : Prop where
  ex : ∃ O P, Same H0 H ∧ (∀ a ∈ O, H0 a = none) ∧ O.Nodup ∧ Same G (hid (O0 ++ (P ++ O)) H) ∧ Slots K (hid (O0 ++ (P ++ O)) H) H σ ρ O ∧
    match s with
    | .no => False
    | .sh d => P = [] ∧ Rep K (hid (O0 ++ (P ++ O)) H) v d
    | .ow ds => ∃ a xs, P = [a] ∧ v = .ref a ∧ a ∉ O ∧ H0 a = none ∧ H a = some (.lst xs) ∧ RepAll K (hid (O0 ++ (P ++ O)) H) xs ds
    | .on dss => ∃ a ps, P = a :: ps ∧ v = .ref a ∧ (a :: ps).Nodup ∧ (∀ b ∈ a :: ps, b ∉ O ∧ H0 b = none) ∧ H a = some (.lst (ps.map V.ref)) ∧ Inner K (hid (O0 ++ (P ++ O)) H) H ps dss
    | .tr a c => P = [a] ∧ v = .ref a ∧ a ∉ O ∧ H0 a = none ∧ Held K (hid (O0 ++ (P ++ O)) H) H a c
section
variable {K : PySem.W.Frag} {H0 : Hp} {O0 : List Addr} {G : Hp} {σ : St} {H H' : Hp} {ρ : SEnv}
theorem okAll (ok : OkO O0 H0) {O : List Addr} (s0 : Same H0 H) (sl : Slots K G H σ ρ O) : OkO (O0 ++ O) H := fun a ha => by
  rcases List.mem_append.mp ha with h | h
  · exact (ok.mono s0) a h
  · obtain ⟨o, e, _⟩ := sl.mem a h
    exact ⟨_, e⟩
theorem StR.grow (t : StR K H0 O0 G σ H ρ) (s : Same H H') : StR K H0 O0 G σ H' ρ := by
  obtain ⟨O, s0, n, nd, g, sl⟩ := t.ex
  exact ⟨O, s0.trans s, n, nd, g.trans (hid_same s), sl.mono (hid_same s) fun a _ o e => s a o e⟩
theorem StV.set {v : V} {s : Sl} (t : StV K H0 O0 G σ H ρ v s) (i : Nat) : StR K H0 O0 G (σ.set i (some v)) H (ρ.set i s) := by
  obtain ⟨O, P, s0, n, nd, g, sl, h⟩ := t.ex
  cases s with
  | no => exact h.elim
  | sh d =>
    obtain ⟨rfl, r⟩ := h
    obtain ⟨O', hs, sl'⟩ := sl.setSh r i
    have sub : ∀ b, b ∈ O0 ++ O' → b ∈ O0 ++ ([] ++ O) := fun b hb => (List.mem_append.mp hb).elim (fun z => List.mem_append_left _ z) fun z => List.mem_append_right _ (hs.subset z)
    exact ⟨O', s0, fun a ha => n a (hs.subset ha), hs.nodup nd, g.trans (hid_sub sub), sl'.mono (hid_sub sub) fun _ _ _ e => e⟩
  | ow ds =>
    obtain ⟨a, xs, rfl, rfl, na, h0, e, r⟩ := h
    obtain ⟨O', hs, nd', sl'⟩ := sl.setOw e r i na nd
    have sub : ∀ b, b ∈ O0 ++ O' → b ∈ O0 ++ ([a] ++ O) := fun b hb => (List.mem_append.mp hb).elim (fun z => List.mem_append_left _ z) fun z => List.mem_append_right _ (by
      rcases hs b z with rfl | z
      · simp
      · simp [z])
    refine ⟨O', s0, fun b hb => ?_, nd', g.trans (hid_sub sub), sl'.mono (hid_sub sub) fun _ _ _ e => e⟩
    rcases hs b hb with rfl | z
    · exact h0
    · exact n b z
  | on dss =>
    obtain ⟨a, ps, rfl, rfl, nda, na, e, r⟩ := h
    obtain ⟨O', hs, nd', sl'⟩ := sl.setOn e r nda i (fun b hb => (na b hb).1) nd
    have sub : ∀ b, b ∈ O0 ++ O' → b ∈ O0 ++ ((a :: ps) ++ O) := fun b hb => (List.mem_append.mp hb).elim (fun z => List.mem_append_left _ z) fun z => List.mem_append_right _ (by
      rcases hs b z with z | z
      · exact List.mem_append_left _ z
      · exact List.mem_append_right _ z)
    refine ⟨O', s0, fun b hb => ?_, nd', g.trans (hid_sub sub), sl'.mono (hid_sub sub) fun _ _ _ e => e⟩
    rcases hs b hb with z | z
    · exact (na b z).2
    · exact n b z
  | tr a c =>
    obtain ⟨rfl, rfl, na, h0, r⟩ := h
    obtain ⟨O', hs, nd', sl'⟩ := sl.setTr r i na nd
    have sub : ∀ b, b ∈ O0 ++ O' → b ∈ O0 ++ ([a] ++ O) := fun b hb => (List.mem_append.mp hb).elim (fun z => List.mem_append_left _ z) fun z => List.mem_append_right _ (by
      rcases hs b z with rfl | z
      · simp
      · simp [z])
    refine ⟨O', s0, fun b hb => ?_, nd', g.trans (hid_sub sub), sl'.mono (hid_sub sub) fun _ _ _ e => e⟩
    rcases hs b hb with rfl | z
    · exact h0
    · exact n b z
end
inductive Out where
  | nx (ρ : SEnv)
  | rt (d : D)
  | rl (ds : List D)
  | rn (dss : List (List D))
  | rp (ds : List D) (d : D)
  | ro (d : D) (ρ : SEnv)
  | bk (ρ : SEnv)
  | ct (ρ : SEnv)
def Post (K : PySem.W.Frag) (H0 : Hp) (O0 : List Addr) (G : Hp) (E : Ends) : Out → Prop
  | .nx ρ => ∀ σ H, StR K H0 O0 G σ H ρ → E.nx σ H
  | .rt d => ∀ v H', Same H0 H' → Rep K (hid O0 H') v d → E.rt v H'
  | .rl ds => ∀ a xs H', Same H0 H' → H0 a = none → H' a = some (.lst xs) → RepAll K (hid (a :: O0) H') xs ds → E.rt (.ref a) H'
  | .rn dss => ∀ a ps H', Same H0 H' → (a :: ps).Nodup → (∀ b ∈ a :: ps, H0 b = none) → H' a = some (.lst (ps.map V.ref)) → Inner K (hid ((a :: ps) ++ O0) H') H' ps dss → E.rt (.ref a) H'
  | .rp ds d => ∀ p a xs v H', Same H0 H' → H0 a = none → H0 p = none → H' a = some (.lst xs) → H' p = some (.tup [.ref a, v]) → RepAll K (hid (a :: O0) H') xs ds → Rep K (hid (a :: O0) H') v d → E.rt (.ref p) H'
  | .ro d ρ => ∀ v σ H', StV K H0 O0 (fun _ => none) σ H' ρ v (.sh d) → E.rt v H'
  | .bk ρ => ∀ σ H, StR K H0 O0 G σ H ρ → E.bk σ H
  | .ct ρ => ∀ σ H, StR K H0 O0 G σ H ρ → E.ct σ H
abbrev PSt := SEnv → Option Out
def PuS (K : PySem.W.Frag) (ts : TS) (F : PSt) : Prop := ∀ (H0 : Hp) (O0 : List Addr) (G : Hp) (σ : St) (H : Hp) (ρ : SEnv) (o : Out) (E : Ends), OkO O0 H0 → StR K H0 O0 G σ H ρ → F ρ = some o → Post K H0 O0 G E o → ts E σ H
def PuV (K : PySem.W.Frag) (te : TE) (vf : SEnv → Option Sl) : Prop := ∀ (H0 : Hp) (O0 : List Addr) (G : Hp) (σ : St) (H : Hp) (ρ : SEnv) (s : Sl) (Q : VK), OkO O0 H0 → StR K H0 O0 G σ H ρ → vf ρ = some s →
  (∀ v H', Same H H' → StV K H0 O0 G σ H' ρ v s → Q v H') → te σ H Q
structure JS (X : Cx) (K : PySem.W.Frag) (st : Stmt) (ts : TS) (F : PSt) : Prop where
  pe : PS X st ts
  pu : PuS K ts F
structure JSs (X : Cx) (K : PySem.W.Frag) (st : List Stmt) (ts : TS) (F : PSt) : Prop where
  pe : PSs X st ts
  pu : PuS K ts F
mutual
def flatD : D → Bool
  | .list _ => false
  | .dict _ => false
  | .tuple ds => flatAll ds
  | _ => true
def flatAll : List D → Bool
  | [] => true
  | d :: ds => flatD d && flatAll ds
end
section
variable {K : PySem.W.Frag} {O0 O : List Addr} {H : Hp}
mutual
theorem flat_rep (h : ∀ a ∈ O, ∃ o, H a = some o ∧ isOwn o = true) : ∀ {v : V} {d : D}, Rep K (hid O0 H) v d → flatD d = true → Rep K (hid (O0 ++ O) H) v d
  | _, _, .non, _ => .non
  | _, _, .bl b, _ => .bl b
  | _, _, .int i, _ => .int i
  | _, _, .str x, _ => .str x
  | _, _, .lst _ _, f => by simp [flatD] at f
  | _, _, .tup (a := a) q r, f => by
    have hr := flat_reps h r (by simpa [flatD] using f)
    refine .tup ?_ hr
    rcases q with (q | ⟨o, q⟩) | q
    · obtain ⟨n, q⟩ := hid_some q
      have na : a ∉ O := fun z => by
        obtain ⟨_, e, e2⟩ := h a z
        rw [q] at e
        cases e
        cases e2
      exact .inl (.inl (by rw [hid_out (by simp [n, na])]; exact q))
    · obtain ⟨n, q⟩ := hid_some q
      have na : a ∉ O := fun z => by
        obtain ⟨_, e, e2⟩ := h a z
        rw [q] at e
        cases e
        cases e2
      exact .inl (.inr ⟨o, by rw [hid_out (by simp [n, na])]; exact q⟩)
    · exact .inr q
theorem flat_reps (h : ∀ a ∈ O, ∃ o, H a = some o ∧ isOwn o = true) : ∀ {vs : List V} {ds : List D}, RepAll K (hid O0 H) vs ds → flatAll ds = true → RepAll K (hid (O0 ++ O) H) vs ds
  | _, _, .nil, _ => .nil
  | _, _, .cons r t, f => by
    have f' := Bool.and_eq_true_iff.mp (show (flatD _ && flatAll _) = true from f)
    exact .cons (flat_rep h r f'.1) (flat_reps h t f'.2)
end
end
def vF (f : PF) : SEnv → Option Sl := fun ρ => (f (full ρ)).bind fun d => if flatD d = true then some (.sh d) else none
def vS (f : PF) : SEnv → Option Sl := fun ρ => (f (masked ρ)).bind fun d => some (.sh d)
def vL (f : PAs) : SEnv → Option Sl := fun ρ => (f (masked ρ)).bind fun ds => some (.ow ds)
def vLF (f : PAs) : SEnv → Option Sl := fun ρ => (f (full ρ)).bind fun ds => if flatAll ds = true then some (.ow ds) else none
section
variable {K : PySem.W.Frag} {te : TE} {f : PF} {fl : PAs}
theorem StR.envF {H0 : Hp} {O0 : List Addr} {G : Hp} {σ : St} {H : Hp} {ρ : SEnv} (ok : OkO O0 H0) (t : StR K H0 O0 G σ H ρ) : OkO O0 H ∧ EnvR K (hid O0 H) σ (full ρ) := by
  obtain ⟨O, s0, n, nd, g, sl⟩ := t.ex
  refine ⟨ok.mono s0, sl.full (hid_sub fun b hb => List.mem_append_left _ hb) fun a ha o e => ?_⟩
  rw [hid_out (ok.fresh (n a ha))]
  exact e
theorem pv_S (h : PuE K te f) : PuV K te (vS f) := by
  intro H0 O0 G σ H ρ s Q ok t hf q
  obtain ⟨d, e1, hf⟩ := bind_some' hf
  cases hf
  obtain ⟨O, s0, n, nd, g, sl⟩ := t.ex
  refine h (O0 ++ O) σ H (masked ρ) d Q (okAll ok s0 sl) sl.mask e1 fun v H' s' r => q v H' s' ⟨O, [], s0.trans s', n, nd, g.trans (hid_same s'), sl.mono (hid_same s') fun a _ o e => s' a o e, rfl, r⟩
theorem pv_F (h : PuE K te f) : PuV K te (vF f) := by
  intro H0 O0 G σ H ρ s Q ok t hf q
  obtain ⟨d, e1, hf⟩ := bind_some' hf
  by_cases hc : flatD d = true
  · rw [if_pos hc] at hf
    cases hf
    have ⟨o1, e2⟩ := t.envF ok
    obtain ⟨O, s0, n, nd, g, sl⟩ := t.ex
    refine h O0 σ H (full ρ) d Q o1 e2 e1 fun v H' s' r => ?_
    have sl' := sl.mono (hid_same (O := O0 ++ O) s') fun a _ o e => s' a o e
    exact q v H' s' ⟨O, [], s0.trans s', n, nd, g.trans (hid_same s'), sl', rfl, flat_rep sl'.mem r hc⟩
  · rw [if_neg hc] at hf
    cases hf
theorem hid_shift {O0 O : List Addr} {a : Addr} {H : Hp} : hid (a :: (O0 ++ O)) H = hid (O0 ++ ([a] ++ O)) H := by
  funext b
  by_cases h : b ∈ a :: (O0 ++ O)
  · rw [hid_in h, hid_in (by simp at h ⊢; rcases h with h | h | h <;> simp [h])]
  · rw [hid_out h, hid_out (by simp at h ⊢; exact ⟨h.2.1, h.1, h.2.2⟩)]
theorem pv_L (h : PuL K te fl) : PuV K te (vL fl) := by
  intro H0 O0 G σ H ρ s Q ok t hf q
  obtain ⟨d, e1, hf⟩ := bind_some' hf
  cases hf
  obtain ⟨O, s0, n, nd, g, sl⟩ := t.ex
  have okA := okAll ok s0 sl
  refine h (O0 ++ O) σ H (masked ρ) d Q okA sl.mask e1 fun a xs H' s' hn ha r => ?_
  have na : a ∉ O := fun z => okA.fresh hn (List.mem_append_right _ z)
  have big : Same (hid (O0 ++ O) H) (hid (O0 ++ ([a] ++ O)) H') := fun b o e => by
    obtain ⟨n1, e⟩ := hid_some e
    have nb : b ≠ a := ne_of_none e hn
    rw [hid_out (by simp at n1 ⊢; exact ⟨n1.1, nb, n1.2⟩)]
    exact s' b o e
  refine q (.ref a) H' s' ⟨O, [a], s0.trans s', n, nd, g.trans big, sl.mono big fun b _ o e => s' b o e, a, xs, rfl, rfl, na, s0.free hn, ha, ?_⟩
  rw [← hid_shift]
  exact r
theorem pv_LF (h : PuL K te fl) : PuV K te (vLF fl) := by
  intro H0 O0 G σ H ρ s Q ok t hf q
  obtain ⟨d, e1, hf⟩ := bind_some' hf
  by_cases hc : flatAll d = true
  · rw [if_pos hc] at hf
    cases hf
    have ⟨o1, e2⟩ := t.envF ok
    obtain ⟨O, s0, n, nd, g, sl⟩ := t.ex
    have okA := okAll ok s0 sl
    refine h O0 σ H (full ρ) d Q o1 e2 e1 fun a xs H' s' hn ha r => ?_
    have na : a ∉ O := fun z => okA.fresh hn (List.mem_append_right _ z)
    have big : Same (hid (O0 ++ O) H) (hid (O0 ++ ([a] ++ O)) H') := fun b o e => by
      obtain ⟨n1, e⟩ := hid_some e
      have nb : b ≠ a := ne_of_none e hn
      rw [hid_out (by simp at n1 ⊢; exact ⟨n1.1, nb, n1.2⟩)]
      exact s' b o e
    have sl' := sl.mono big fun b _ o e => s' b o e
    refine q (.ref a) H' s' ⟨O, [a], s0.trans s', n, nd, g.trans big, sl', a, xs, rfl, rfl, na, s0.free hn, ha, ?_⟩
    have := flat_reps (K := K) (O0 := a :: O0) (O := O) sl'.mem r hc
    rw [← hid_shift]
    exact this
  · rw [if_neg hc] at hf
    cases hf
theorem StR.evalF {H0 : Hp} {O0 : List Addr} {G : Hp} {σ : St} {H : Hp} {ρ : SEnv} {d : D} {Q : VK} (h : PuE K te f) (ok : OkO O0 H0) (t : StR K H0 O0 G σ H ρ) (e1 : f (L2.full ρ) = some d)
    (q : ∀ v H', Same H H' → StR K H0 O0 G σ H' ρ → Rep K (hid O0 H') v d → Q v H') : te σ H Q := by
  have ⟨o1, e2⟩ := t.envF ok
  exact h O0 σ H (L2.full ρ) d Q o1 e2 e1 fun v H' s' r => q v H' s' (t.grow s') r
theorem StR.same {H0 : Hp} {O0 : List Addr} {G : Hp} {σ : St} {H : Hp} {ρ : SEnv} (t : StR K H0 O0 G σ H ρ) : Same H0 H := by
  obtain ⟨O, s0, _⟩ := t.ex
  exact s0
end
def pNx : PSt := fun ρ => some (.nx ρ)
def pSq (F F' : PSt) : PSt := fun ρ => (F ρ).bind fun o => match o with
  | .nx ρ' => F' ρ'
  | .rt d => some (.rt d)
  | .rl d => some (.rl d)
  | .rn d => some (.rn d)
  | .rp d e => some (.rp d e)
  | .ro d e => some (.ro d e)
  | .bk ρ' => some (.bk ρ')
  | .ct ρ' => some (.ct ρ')
def pSet (i : Nat) (vf : SEnv → Option Sl) : PSt := fun ρ => (vf ρ).bind fun s => some (.nx (ρ.set i s))
def pDrop (f : PF) : PSt := fun ρ => (f (full ρ)).bind fun _ => some (.nx ρ)
def pRet (f : PF) : PSt := fun ρ => (f (full ρ)).bind fun d => some (.rt d)
def pRetL (f : PAs) : PSt := fun ρ => (f (full ρ)).bind fun d => some (.rl d)
def asOw : Sl → Option (List D)
  | .ow ds => some ds
  | _ => none
def asSh : Sl → Option D
  | .sh d => some d
  | _ => none
def pRetO (i : Nat) : PSt := fun ρ => (ρ[i]?).bind fun s => (asOw s).bind fun ds => some (.rl ds)
def pRetN : PSt := fun _ => some (.rt .none)
def pIfS (c : PB) (F F' : PSt) : PSt := fun ρ => (c (full ρ)).bind fun b => if b = true then F ρ else F' ρ
def pNever : PSt := fun _ => none
def pApp (i : Nat) (vf : SEnv → Option Sl) : PSt := fun ρ => (vf ρ).bind fun s => (asSh s).bind fun d => (ρ[i]?).bind fun s' => (asOw s').bind fun ds => if fits ds.length = true then some (.nx (ρ.set i (.ow (ds ++ [d])))) else none
def pSetI (i : Nat) (fi : PF) (vf : SEnv → Option Sl) : PSt := fun ρ => (vf ρ).bind fun s => (asSh s).bind fun d => (fi (full ρ)).bind fun k => (asI k).bind fun k => (ρ[i]?).bind fun s' => (asOw s').bind fun ds => (ixN ds.length k).bind fun j => some (.nx (ρ.set i (.ow (ds.set j d))))
def pClear (i : Nat) : PSt := fun ρ => (ρ[i]?).bind fun s' => (asOw s').bind fun _ => some (.nx (ρ.set i (.ow [])))
def relS : Sl → Sl
  | .ow ds => .sh (.list ds)
  | s => s
def relAt (i : Nat) (ρ : SEnv) : SEnv := ρ.modify i relS
def pRel (i : Nat) (F : PSt) : PSt := fun ρ => F (relAt i ρ)
section
variable {X : Cx} {K : PySem.W.Frag} {st : Stmt} {rest : List Stmt} {t u : TS} {F F' : PSt} {pos : Pos}
theorem jss_nil : JSs X K [] tNext pNx := ⟨pss_nil, by
  intro H0 O0 G σ H ρ o E ok s hf q
  cases hf
  exact q σ H s⟩
theorem jss_one (h : JS X K st t F) : JSs X K [st] t F := ⟨pss_one h.pe, h.pu⟩
theorem jss_cons (h1 : JS X K st t F) (h2 : JSs X K rest u F') : JSs X K (st :: rest) (tSeq t u) (pSq F F') := ⟨pss_cons h1.pe h2.pe, by
  intro H0 O0 G σ H ρ o E ok s hf q
  obtain ⟨o1, e1, hf⟩ := bind_some' hf
  refine h1.pu H0 O0 G σ H ρ o1 _ ok s e1 ?_
  cases o1 with
  | nx ρ' => exact fun σ' H' s' => h2.pu H0 O0 G σ' H' ρ' o E ok s' hf q
  | rt d => cases hf; exact q
  | rl d => cases hf; exact q
  | rn d => cases hf; exact q
  | rp d e => cases hf; exact q
  | ro d e => cases hf; exact q
  | bk d => cases hf; exact q
  | ct d => cases hf; exact q⟩
theorem js_never : JS X K st tNever pNever := ⟨ps_never, by
  intro H0 O0 G σ H ρ o E ok s hf q
  cases hf⟩
theorem js_set' {te : TE} {i : Nat} {vf : SEnv → Option Sl} (h : PS X st (tAsg te (gName i))) (pv : PuV K te vf) : JS X K st (tAsg te (gName i)) (pSet i vf) := ⟨h, by
  intro H0 O0 G σ H ρ o E ok s hf q
  obtain ⟨v, e1, hf⟩ := bind_some' hf
  cases hf
  exact pv H0 O0 G σ H ρ v _ ok s e1 fun x H' s' sv => q _ H' (sv.set i)⟩
section
variable {i : Nat} {x : Str} {e : Expr} {te : TE} {pos' : Pos}
theorem js_setS {f : PF} (hN : X.N.Nodup) (hi : X.N[i]? = some x) (hx : Loc X.env.scope x) (he : JE X K e te f) (hs : swapsWith e (some (.Name x pos')) pos.line X.env = pure false := by rfl) (hf : X.fn x = true ∨ X.env.scope.names.lookup x = some .local := by first | exact .inl rfl | exact .inr rfl | assumption) :
    JS X K (.Assign [.Name x pos'] e pos) (tAsg te (gName i)) (pSet i (vS f)) := js_set' (ps_set hN hi hx he.pe hs hf) (pv_S he.pu)
theorem js_setL {f : PAs} (hN : X.N.Nodup) (hi : X.N[i]? = some x) (hx : Loc X.env.scope x) (he : JL X K e te f) (hs : swapsWith e (some (.Name x pos')) pos.line X.env = pure false := by rfl) (hf : X.fn x = true ∨ X.env.scope.names.lookup x = some .local := by first | exact .inl rfl | exact .inr rfl | assumption) :
    JS X K (.Assign [.Name x pos'] e pos) (tAsg te (gName i)) (pSet i (vL f)) := js_set' (ps_set hN hi hx he.pe hs hf) (pv_L he.pu)
theorem js_setLF {f : PAs} (hN : X.N.Nodup) (hi : X.N[i]? = some x) (hx : Loc X.env.scope x) (he : JL X K e te f) (hs : swapsWith e (some (.Name x pos')) pos.line X.env = pure false := by rfl) (hf : X.fn x = true ∨ X.env.scope.names.lookup x = some .local := by first | exact .inl rfl | exact .inr rfl | assumption) :
    JS X K (.Assign [.Name x pos'] e pos) (tAsg te (gName i)) (pSet i (vLF f)) := js_set' (ps_set hN hi hx he.pe hs hf) (pv_LF he.pu)
end
theorem js_ret {e : Expr} {te : TE} {f : PF} (he : JE X K e te f) : JS X K (.Return (some e) pos) (tRet te) (pRet f) := ⟨ps_ret he.pe, by
  intro H0 O0 G σ H ρ o E ok s hf q
  obtain ⟨d, e1, hf⟩ := bind_some' hf
  cases hf
  exact s.evalF he.pu ok e1 fun v H' s' t' r => q v H' t'.same r⟩
theorem js_if {c : Expr} {a b : List Stmt} {tc : TT} {pc : PB} (hc : JT X K c tc pc) (ha : JSs X K a t F) (hb : JSs X K b u F') : JS X K (.If c a b pos) (tIfS tc t u) (pIfS pc F F') := ⟨ps_if hc.pe ha.pe hb.pe, by
  intro H0 O0 G σ H ρ o E ok s hf q
  obtain ⟨k, e1, hf⟩ := bind_some' hf
  have ⟨o1, e2⟩ := s.envF ok
  refine hc.pu O0 σ H (full ρ) k _ o1 e2 e1 fun H' s' => ?_
  cases k with
  | true =>
    rw [if_pos rfl] at hf ⊢
    exact ha.pu H0 O0 G σ H' ρ o E ok (s.grow s') hf q
  | false =>
    rw [if_neg Bool.false_ne_true] at hf ⊢
    exact hb.pu H0 O0 G σ H' ρ o E ok (s.grow s') hf q⟩
theorem StR.rel {H0 : Hp} {O0 : List Addr} {G : Hp} {σ : St} {H : Hp} {ρ : SEnv} (ok : OkO O0 H0) (t : StR K H0 O0 G σ H ρ) (i : Nat) : StR K H0 O0 G σ H (relAt i ρ) := by
  obtain ⟨O, s0, n, nd, g, sl⟩ := t.ex
  have key : ∀ {σ : St} {ρ : SEnv} {O1 : List Addr} (i : Nat) (G1 G2 : Hp), Slots K G1 H σ ρ O1 → O1.Nodup → Same G1 G2 → (∀ a xs ds, (relAt i ρ).length = ρ.length → H a = some (.lst xs) → σ[i]? = some (some (.ref a)) → ρ[i]? = some (.ow ds) → G2 a = some (.lst xs)) →
      ∃ O2, O2.Sublist O1 ∧ Slots K G2 H σ (relAt i ρ) O2 := by
    intro σ ρ O1 i G1 G2 s1
    induction s1 generalizing i with
    | nil =>
      intro _ g2 _
      have e0 : relAt i [] = [] := by simp [relAt]
      rw [e0]
      exact ⟨[], .refl _, .nil⟩
    | no s2 ih =>
      intro nd g2 h
      cases i with
      | zero => exact ⟨_, .refl _, .no (s2.mono g2 fun _ _ _ e => e)⟩
      | succ i =>
        obtain ⟨O2, h1, h2⟩ := ih i nd g2 fun a xs ds hl => h a xs ds (by simp [relAt])
        exact ⟨O2, h1, .no h2⟩
    | sh r s2 ih =>
      intro nd g2 h
      cases i with
      | zero => exact ⟨_, .refl _, .sh (r.mono g2) (s2.mono g2 fun _ _ _ e => e)⟩
      | succ i =>
        obtain ⟨O2, h1, h2⟩ := ih i nd g2 fun a xs ds hl => h a xs ds (by simp [relAt])
        exact ⟨O2, h1, .sh (r.mono g2) h2⟩
    | ow e r s2 ih =>
      intro nd g2 h
      cases i with
      | zero => exact ⟨_, .cons _ (.refl _), .sh (.lst (SqL.of (h _ _ _ (by simp [relAt]) e rfl rfl)) (r.mono g2)) (s2.mono g2 fun _ _ _ e => e)⟩
      | succ i =>
        obtain ⟨O2, h1, h2⟩ := ih i (List.nodup_cons.mp nd).2 g2 fun a xs ds hl => h a xs ds (by simp [relAt])
        exact ⟨_, .cons₂ _ h1, .ow e (r.mono g2) h2⟩
    | tr e s2 ih =>
      intro nd g2 h
      cases i with
      | zero => exact ⟨_, .refl _, .tr (e.mono g2 fun _ z => z) (s2.mono g2 fun _ _ _ e => e)⟩
      | succ i =>
        obtain ⟨O2, h1, h2⟩ := ih i (List.nodup_cons.mp nd).2 g2 fun a xs ds hl => h a xs ds (by simp [relAt])
        exact ⟨_, .cons₂ _ h1, .tr (e.mono g2 fun _ z => z) h2⟩
    | on e r s2 ih =>
      intro nd g2 h
      cases i with
      | zero => exact ⟨_, .refl _, .on e (r.mono g2 fun _ _ _ e => e) (s2.mono g2 fun _ _ _ e => e)⟩
      | succ i =>
        obtain ⟨O2, h1, h2⟩ := ih i (List.nodup_append.mp (List.nodup_cons.mp nd).2).2.1 g2 fun a xs ds hl => h a xs ds (by simp [relAt])
        exact ⟨_, .cons₂ _ (List.Sublist.append_left h1 _), .on e (r.mono g2 fun _ _ _ e => e) h2⟩
  by_cases hi : ∃ ds, ρ[i]? = some (.ow ds)
  · obtain ⟨ds, hi⟩ := hi
    obtain ⟨a, xs, h1, h2, h3, h4⟩ := sl.getOw hi
    have sub : ∀ b, b ∈ O0 ++ O.erase a → b ∈ O0 ++ O := fun b hb => (List.mem_append.mp hb).elim (fun z => List.mem_append_left _ z) fun z => List.mem_append_right _ (List.mem_of_mem_erase z)
    have na : a ∉ O0 := ok.fresh (n a h2)
    have ne : a ∉ O.erase a := fun z => by
      have := (nd.mem_erase_iff).mp z
      exact this.1 rfl
    obtain ⟨O2, hs, sl2⟩ := key i _ (hid (O0 ++ O.erase a) H) sl nd (hid_sub sub) fun b ys es _ e1 e2 e3 => by
      rw [h1] at e2
      cases e2
      rw [hid_out (by simp [na, ne])]
      exact e1
    by_cases ha2 : a ∈ O2
    · -- still hidden: nothing was said, the heap may hide a as well
      have : False := by
        have cnt : ∀ {σ : St} {ρ : SEnv} {O1 : List Addr} {G1 : Hp} (i : Nat), Slots K G1 H σ ρ O1 → O1.Nodup → σ[i]? = some (some (.ref a)) → (∃ ds, ρ[i]? = some (.ow ds)) → ∀ {O2 : List Addr} {G2 : Hp}, Slots K G2 H σ (relAt i ρ) O2 → a ∉ O2 := by
          intro σ ρ O1 G1 i s1
          induction s1 generalizing i with
          | nil => intro _ h; simp at h
          | no s2 ih =>
            intro nd h h' O2 G2 s3
            cases i with
            | zero => obtain ⟨_, h'⟩ := h'; cases h'
            | succ i => cases s3 with | no s3 => exact ih i nd h h' s3
          | sh r s2 ih =>
            intro nd h h' O2 G2 s3
            cases i with
            | zero => obtain ⟨_, h'⟩ := h'; cases h'
            | succ i => cases s3 with | sh _ s3 => exact ih i nd h h' s3
          | @ow c ys es σ' ρ' O1' e r s2 ih =>
            intro nd h h' O2 G2 s3
            have nd' := List.nodup_cons.mp nd
            cases i with
            | zero =>
              cases h
              cases s3 with
              | sh _ s3 =>
                have same : ∀ {σ : St} {ρ : SEnv} {A B : List Addr} {G1 G2 : Hp}, Slots K G1 H σ ρ A → Slots K G2 H σ ρ B → A = B := by
                  intro σ ρ A B G1 G2 s1
                  induction s1 generalizing B with
                  | nil => intro s; cases s; rfl
                  | no _ ih => intro s; cases s with | no s => exact ih s
                  | sh _ _ ih => intro s; cases s with | sh _ s => exact ih s
                  | ow _ _ _ ih => intro s; cases s with | ow _ _ s => rw [ih s]
                  | on e _ _ ih => intro s; cases s with | on e' _ s => rw [ih s, refs_inj e e']
                  | tr _ _ ih => intro s; cases s with | tr _ s => rw [ih s]
                rw [← same s2 s3]
                exact nd'.1
            | succ i =>
              cases s3 with
              | ow _ _ s3 =>
                have := ih i nd'.2 h h' s3
                intro z
                rcases List.mem_cons.mp z with z | z
                · obtain ⟨b, ys', q1, q2, _⟩ := s2.getOw (i := i) (h'.choose_spec)
                  have h2' : σ'[i]? = some (some (V.ref a)) := h
                  rw [q1] at h2'
                  cases h2'
                  exact nd'.1 (by rw [← z]; exact q2)
                · exact this z
          | @tr c c0 σ' ρ' O1' e s2 ih =>
            intro nd h h' O2 G2 s3
            have nd' := List.nodup_cons.mp nd
            cases i with
            | zero => obtain ⟨_, h'⟩ := h'; cases h'
            | succ i =>
              cases s3 with
              | tr _ s3 =>
                have := ih i nd'.2 h h' s3
                intro z
                rcases List.mem_cons.mp z with z | z
                · obtain ⟨b, ys', q1, q2, _⟩ := s2.getOw (i := i) (h'.choose_spec)
                  have h2' : σ'[i]? = some (some (V.ref a)) := h
                  rw [q1] at h2'
                  cases h2'
                  exact nd'.1 (by rw [← z]; exact q2)
                · exact this z
          | @on c ps0 dss0 σ' ρ' O1' e r s2 ih =>
            intro nd h h' O2 G2 s3
            have nd' := List.nodup_cons.mp nd
            have nd2 := List.nodup_append.mp nd'.2
            cases i with
            | zero => obtain ⟨_, h'⟩ := h'; cases h'
            | succ i =>
              cases s3 with
              | on e2 _ s3 =>
                cases refs_inj e e2
                have := ih i nd2.2.1 h h' s3
                intro z
                obtain ⟨b, ys', q1, q2, _⟩ := s2.getOw (i := i) (h'.choose_spec)
                have h2' : σ'[i]? = some (some (V.ref a)) := h
                rw [q1] at h2'
                cases h2'
                rcases List.mem_cons.mp z with z | z
                · exact nd'.1 (by rw [← z]; exact List.mem_append_right _ q2)
                · rcases List.mem_append.mp z with z | z
                  · exact nd2.2.2 a z a q2 rfl
                  · exact this z
        exact cnt i sl nd h1 ⟨ds, hi⟩ sl2 ha2
      exact this.elim
    · have sub2 : ∀ b, b ∈ O0 ++ O2 → b ∈ O0 ++ O.erase a := fun b hb => (List.mem_append.mp hb).elim (fun z => List.mem_append_left _ z) fun z => List.mem_append_right _ ((nd.mem_erase_iff).mpr ⟨fun w => ha2 (by rw [← w]; exact z), hs.subset z⟩)
      exact ⟨O2, s0, fun b hb => n b (hs.subset hb), hs.nodup nd, (g.trans (hid_sub sub)).trans (hid_sub sub2), sl2.mono (hid_sub sub2) fun _ _ _ e => e⟩
  · have e : relAt i ρ = ρ := by
      unfold relAt
      apply List.ext_getElem?
      intro j
      rw [List.getElem?_modify]
      by_cases hj : i = j
      · subst hj
        cases e1 : ρ[i]? with
        | none => simp
        | some s =>
          cases s with
          | ow ds => exact absurd ⟨ds, e1⟩ hi
          | no => simp [relS]
          | on d => simp [relS]
          | tr a c => simp [relS]
          | sh d => simp [relS]
      · simp [hj]
    rw [e]
    exact ⟨O, s0, n, nd, g, sl⟩
theorem js_rel (i : Nat) (h : JS X K st t F) : JS X K st t (pRel i F) := ⟨h.pe, by
  intro H0 O0 G σ H ρ o E ok s hf q
  exact h.pu H0 O0 G σ H _ o E ok (s.rel ok i) hf q⟩
end
end L2
set_option maxHeartbeats 4000000
namespace L2
open PySem PySem.Spec PyProof.Rows
structure StVs (K : PySem.W.Frag) (H0 : Hp) (O0 : List Addr) (G : Hp) (σ : St) (H : Hp) (ρ : SEnv) (vs : List V) (ds : List D) : Prop where
  ex : ∃ O, Same H0 H ∧ (∀ a ∈ O, H0 a = none) ∧ O.Nodup ∧ Same G (hid (O0 ++ O) H) ∧ Slots K (hid (O0 ++ O) H) H σ ρ O ∧ RepAll K (hid (O0 ++ O) H) vs ds
def PuGS (K : PySem.W.Frag) (g : TG) (bs : D → SEnv → Option SEnv) : Prop := ∀ (H0 : Hp) (O0 : List Addr) (G : Hp) (σ : St) (H : Hp) (ρ : SEnv) (v : V) (d : D) (ρ' : SEnv) (Q : St → Hp → Prop), StV K H0 O0 G σ H ρ v (.sh d) → bs d ρ = some ρ' →
  (∀ σ', StR K H0 O0 G σ' H ρ' → Q σ' H) → g v σ H Q
structure JGS (X : Cx) (K : PySem.W.Frag) (tg : Expr) (g : TG) (bs : D → SEnv → Option SEnv) : Prop where
  pe : PG X tg g
  pu : PuGS K g bs
def bs1 (i : Nat) : D → SEnv → Option SEnv := fun d ρ => some (ρ.set i (.sh d))
section
variable {X : Cx} {K : PySem.W.Frag} {pos : Pos}
theorem jgs_name {i : Nat} {x : Str} (hN : X.N.Nodup) (hi : X.N[i]? = some x) (hx : Loc X.env.scope x) (hf : X.fn x = true ∨ X.env.scope.names.lookup x = some .local := by first | exact .inl rfl | exact .inr rfl | assumption) : JGS X K (.Name x pos) (gName i) (bs1 i) := ⟨pg_name hN hi hx hf, by
  intro H0 O0 G σ H ρ v d ρ' Q t hb q
  cases hb
  exact q _ (t.set i)⟩
def pAsg (bs : D → SEnv → Option SEnv) (vf : SEnv → Option Sl) : PSt := fun ρ => (vf ρ).bind fun s => (asSh s).bind fun d => (bs d ρ).bind fun ρ' => some (.nx ρ')
theorem asSh_eq {s : Sl} {d : D} (h : asSh s = some d) : s = .sh d := by
  cases s with
  | sh e => cases h; rfl
  | _ => cases h
theorem asOw_eq {s : Sl} {d : List D} (h : asOw s = some d) : s = .ow d := by
  cases s with
  | ow e => cases h; rfl
  | _ => cases h
def forP (bs : D → SEnv → Option SEnv) (F : PSt) : List D → SEnv → Option Out
  | [], ρ => some (.nx ρ)
  | d :: ds, ρ => (bs d ρ).bind fun ρ1 => (F ρ1).bind fun o => match o with
    | .nx ρ' => forP bs F ds ρ'
    | .ct ρ' => forP bs F ds ρ'
    | .bk ρ' => some (.nx ρ')
    | .rt d => some (.rt d)
    | .rl d => some (.rl d)
    | .rn d => some (.rn d)
    | .rp d e => some (.rp d e)
    | .ro d e => some (.ro d e)
def pFor (fi : PAs) (bs : D → SEnv → Option SEnv) (F : PSt) : PSt := fun ρ => (fi (masked ρ)).bind fun items => forP bs F items ρ
theorem StR.ghost {H0 : Hp} {O0 : List Addr} {G G1 : Hp} {σ : St} {H : Hp} {ρ : SEnv} (t : StR K H0 O0 G1 σ H ρ) (g : Same G G1) : StR K H0 O0 G σ H ρ := by
  obtain ⟨O, s0, n, nd, g1, sl⟩ := t.ex
  exact ⟨O, s0, n, nd, g.trans g1, sl⟩
theorem pu_for {wi : TI} {g : TG} {tb : TS} {fi : PAs} {bs : D → SEnv → Option SEnv} {F : PSt} (hi : PuI K wi fi) (hg : PuGS K g bs) (hb : PuS K tb F) : PuS K (tFor wi g tb) (pFor fi bs F) := by
  intro H0 O0 G σ H ρ o E ok s hf q
  obtain ⟨items, e1, hf⟩ := bind_some' hf
  obtain ⟨O, s0, n, nd, gg, sl⟩ := s.ex
  refine hi (O0 ++ O) σ H (masked ρ) items _ (okAll ok s0 sl) sl.mask e1 fun J H1 s1 it => ?_
  have t1 : StR K H0 O0 (hid (O0 ++ O) H1) σ H1 ρ := ⟨O, s0.trans s1, n, nd, Same.refl _, sl.mono (hid_same s1) fun a _ o e => s1 a o e⟩
  have gG : Same G (hid (O0 ++ O) H1) := gg.trans (hid_same s1)
  refine ⟨fun i m σ H => m = items.length - i ∧ i ≤ items.length ∧ ∃ ρi, StR K H0 O0 (hid (O0 ++ O) H1) σ H ρi ∧ forP bs F (items.drop i) ρi = some o, ⟨items.length, by simp, Nat.zero_le _, ρ, t1, by simpa using hf⟩, ?_⟩
  rintro i m σ' H' ⟨rfl, hil, ρi, ti, hfi⟩
  obtain ⟨O', s0', n', nd', g', sl'⟩ := ti.ex
  have I := it (O0 ++ O') H' (okAll ok s0' sl') g'
  by_cases hlt : i < items.length
  · refine .inr ⟨I.1 i hlt, fun σ' H' => ∃ ρ', StR K H0 O0 (hid (O0 ++ O) H1) σ' H' ρ' ∧ forP bs F (items.drop (i + 1)) ρ' = some o, fun σ2 H2 ⟨ρ', t', h'⟩ => ⟨items.length - (i + 1), by omega, rfl, hlt, ρ', t', h'⟩, fun x H'' y => ?_⟩
    obtain ⟨d, ed, s'', rd⟩ := I.2.1 i x H'' hlt y
    have hdrop : items.drop i = d :: items.drop (i + 1) := by
      rw [List.drop_eq_getElem_cons hlt]
      congr 1
      exact Option.some.inj ((List.getElem?_eq_getElem hlt).symm.trans ed)
    rw [hdrop] at hfi
    obtain ⟨ρ1, eb, hfi⟩ := bind_some' hfi
    obtain ⟨o1, eo, hfi⟩ := bind_some' hfi
    have sv : StV K H0 O0 (hid (O0 ++ O) H1) σ' H'' ρi x (.sh d) := ⟨O', [], s0'.trans s'', n', nd', g'.trans (hid_same s''), sl'.mono (hid_same s'') fun a _ o e => s'' a o e, rfl, rd⟩
    refine hg H0 O0 _ σ' H'' ρi x d ρ1 _ sv eb fun σ2 t2 => ?_
    refine hb H0 O0 _ σ2 H'' ρ1 o1 _ ok t2 eo ?_
    cases o1 with
    | nx ρ' => exact fun σ3 H3 t3 => ⟨ρ', t3, hfi⟩
    | ct ρ' => exact fun σ3 H3 t3 => ⟨ρ', t3, hfi⟩
    | bk ρ' => cases hfi; exact fun σ3 H3 t3 => q σ3 H3 (t3.ghost gG)
    | rt d => cases hfi; exact q
    | rl d => cases hfi; exact q
    | rn d => cases hfi; exact q
    | rp d e => cases hfi; exact q
    | ro d e => cases hfi; exact q
  · have e : i = items.length := by omega
    subst e
    rw [List.drop_length] at hfi
    cases hfi
    exact .inl ⟨I.2.2, q σ' H' (ti.ghost gG)⟩
theorem js_for {tg iter : Expr} {body : List Stmt} {wi : TI} {g : TG} {tb : TS} {fi : PAs} {bs : D → SEnv → Option SEnv} {F : PSt} (hp : PassesOwn (model X.prog X.w) X.A X.env X.xe) (hc : X.calm = true) (hi : JI X K tg iter wi fi) (hg : JGS X K tg g bs) (hb : JSs X K body tb F)
    (hs : ∀ x, foldedSetIterable iter X.env x = pure x := by intro _; rfl) : JS X K (.For tg iter body [] pos) (tFor wi g tb) (pFor fi bs F) := ⟨ps_for hp hc hi.pe hg.pe hb.pe hs, pu_for hi.pu hg.pu hb.pu⟩
theorem StR.write {H0 : Hp} {O0 : List Addr} {G : Hp} {σ : St} {H : Hp} {ρ : SEnv} {v : V} {d : D} {i : Nat} {ds : List D} (t : StV K H0 O0 G σ H ρ v (.sh d)) (hi : ρ[i]? = some (.ow ds)) :
    ∃ a xs, σ[i]? = some (some (.ref a)) ∧ H a = some (.lst xs) ∧ xs.length = ds.length ∧ StR K H0 O0 G σ (upd H a (.lst (xs ++ [v]))) (ρ.set i (.ow (ds ++ [d]))) ∧ (∀ j, StR K H0 O0 G σ (upd H a (.lst (xs.set j v))) (ρ.set i (.ow (ds.set j d)))) := by
  obtain ⟨O, P, s0, n, nd, g, sl, rfl, r⟩ := t.ex
  obtain ⟨a, xs, h1, h2, h3, h4⟩ := sl.getOw hi
  have s0' : ∀ ys, Same H0 (upd H a (.lst ys)) := fun ys b o e => by
    rw [upd_ne (ne_of_none e (n a h2))]
    exact s0 b o e
  have hh : ∀ ys, hid (O0 ++ ([] ++ O)) (upd H a (.lst ys)) = hid (O0 ++ ([] ++ O)) H := fun ys => hid_upd (by simp [h2])
  refine ⟨a, xs, h1, h3, h4.length, ⟨O, s0' _, n, nd, ?_, ?_⟩, fun j => ⟨O, s0' _, n, nd, ?_, ?_⟩⟩
  · have := hh (xs ++ [v]); simp only [List.nil_append] at this g ⊢; rw [this]; exact g
  · have := sl.write (h4.append (.cons r .nil)) nd hi h1; have e := hh (xs ++ [v]); simp only [List.nil_append] at this e ⊢; rw [e]; exact this
  · have := hh (xs.set j v); simp only [List.nil_append] at this g ⊢; rw [this]; exact g
  · have := sl.write (h4.set r j) nd hi h1; have e := hh (xs.set j v); simp only [List.nil_append] at this e ⊢; rw [e]; exact this
theorem StR.getOw {H0 : Hp} {O0 : List Addr} {G : Hp} {σ : St} {H : Hp} {ρ : SEnv} {i : Nat} {ds : List D} (t : StR K H0 O0 G σ H ρ) (hi : ρ[i]? = some (.ow ds)) : ∃ a xs, σ[i]? = some (some (.ref a)) ∧ H a = some (.lst xs) ∧ xs.length = ds.length := by
  obtain ⟨O, s0, n, nd, g, sl⟩ := t.ex
  obtain ⟨a, xs, h1, h2, h3, h4⟩ := sl.getOw hi
  exact ⟨a, xs, h1, h3, h4.length⟩
theorem js_app (i : Nat) {x : Str} {e : Expr} {te : TE} {vf : SEnv → Option Sl} {p apos cpos : Pos} (he : PE X e te) (pv : PuV K te vf) (hK : X.K = K) (hN : X.N[i]? = some x := by rfl) (hv : Vis X.env.scope x := by first | exact Or.inl rfl | exact Or.inr (Or.inl rfl) | exact Or.inr (Or.inr rfl)) (hd : (x == ("__debug__" : Str)) = false := by decide)
    (hcd : (x == ("__classdict__" : Str)) = false := by decide) (hbase : attributeBase (.Name x p) "append" X.env (eval (.Name x p) X.env) = eval (.Name x p) X.env := by rfl)
    (hfew : ((backTo cpos (starEach [e] X.env)).all (fun x => !x.1) && (backToKw cpos (keywordEach [] X.env)).all (fun x => x.1.isSome)
      && decide ([e].length + ([] : List Keyword).length + (if ([] : List Keyword).isEmpty then 0 else 1) < 30)) = true := by rfl)
    (hline : (apos.endLine == cpos.line) = true := by rfl) (hs : starEach [e] X.env = (false, eval e X.env) :: starEach [] X.env := by rfl) (hplain : (backTo cpos (starEach [] X.env)).any (·.1) = false := by rfl)
    (hs2 : swapsWith (.Call (.Attribute (.Name x p) "append" apos) [e] [] cpos) none pos.line X.env = pure false := by rfl) :
    JS X K (.Expr (.Call (.Attribute (.Name x p) "append" apos) [e] [] cpos) pos) (tDrop (tBM K "list" rAppend (tVar i) (tCons te tNil))) (pApp i vf) := ⟨by
  subst hK
  exact ps_expr (pe_bm PySem.F.plainAttrs_list PySem.F.slot_list_append PySem.F.type_list_append mt_append (pe_var hN hv hd hcd) (pa_cons he pa_nil hs) hbase hfew hline hs hplain) hs2, by
  intro H0 O0 G σ H ρ o E ok s hf q
  obtain ⟨sl, e1, hf⟩ := bind_some' hf
  obtain ⟨d, e2, hf⟩ := bind_some' hf
  obtain ⟨sl2, e3, hf⟩ := bind_some' hf
  obtain ⟨ds, e4, hf⟩ := bind_some' hf
  rw [asSh_eq e2] at e1
  rw [asOw_eq e4] at e3
  by_cases hc : fits ds.length = true
  · rw [if_pos hc] at hf
    cases hf
    obtain ⟨a, xs, h1, h2, h3⟩ := s.getOw e3
    refine ⟨_, h1, .inl ⟨rfl, _, SqL.of h2⟩, ?_⟩
    refine pv H0 O0 G σ H ρ _ _ ok s e1 fun v H' s' sv => ?_
    obtain ⟨a', xs', h1', h2', h3', t', _⟩ := StR.write sv e3
    rw [h1] at h1'
    cases h1'
    exact ⟨a, xs', v, rfl, rfl, h2', by rw [h3']; exact of_decide_eq_true hc, q σ _ t'⟩
  · rw [if_neg hc] at hf
    cases hf⟩
end
section
variable {X : Cx} {K : PySem.W.Frag} {tg elt iter : Expr} {ifs : List Expr} {scope : Scope} {wi : TI} {g : TG} {tc : TT} {te : TE} {fi : PAs} {bd : D → PEnv → Option PEnv} {pt : PB} {fe : PF}
end
def startP (m : Nat) (ds : List D) : SEnv := ds.map .sh ++ List.replicate (m - ds.length) .no
def outD : Out → Option D
  | .rt d => some d
  | .rl ds => some (.list ds)
  | .rn dss => some (.list (dss.map .list))
  | .rp ds d => some (.tuple [.list ds, d])
  | .nx _ => some .none
  | _ => none
def runF (n m : Nat) (F : PSt) : List D → Option D := fun ds => if ds.length = n then (F (startP m ds)).bind outD else none
theorem takesF (n m : Nat) (F : PSt) : Takes n (runF n m F) := fun ds a h => by
  unfold runF at h
  by_cases hc : ds.length = n
  · exact hc
  · rw [if_neg hc] at h; cases h
section
variable {P : Program} {w : World} {K : PySem.W.Frag} {mg : Str → Option Value} {base : Heap}
theorem slots_start {H : Hp} {O : List Addr} {vs : List V} {ds : List D} (r : RepAll K (hid O H) vs ds) (k : Nat) : Slots K (hid O H) H (vs.map some ++ List.replicate k none) (ds.map .sh ++ List.replicate k .no) [] := by
  induction r using RepAll.rec (motive_1 := fun _ _ _ => True) with
  | non => trivial
  | bl => trivial
  | int => trivial
  | str => trivial
  | lst => trivial
  | tup => trivial
  | dic => trivial
  | obj => trivial
  | nil =>
    simp only [List.map_nil, List.nil_append]
    induction k with
    | zero => exact .nil
    | succ k ih => exact .no ih
  | cons q _ _ ih => exact .sh q ih
theorem str_start {H : Hp} {O : List Addr} {vs : List V} {ds : List D} (r : RepAll K (hid O H) vs ds) (N : List Str) : StR K H O (hid O H) (start N vs) H (startP N.length ds) := by
  refine ⟨[], Same.refl _, (fun a h => by cases h), List.nodup_nil, ?_, ?_⟩
  · rw [List.append_nil]; exact Same.refl _
  · rw [List.append_nil]
    unfold start startP
    rw [r.length]
    exact slots_start r _
theorem Def.pureF {x : Str} {st : Stmt} {N ps : List Str} {k n m : Nat} {F : PSt} {fn : List D → Option D} (hfn : fn = runF n m F) (D : Def K mg x st ps) (S : FnScope N ps (defScope st)) (hn : ps.length = n) (hm : N.length = m)
    (hb : ∀ (f : Addr) (cdv : Value) (A : Around) (outer : List Env) (s : Shared) (H : Hp) (E : XK), Room k (A.deeper (envOfC x (defScope st) s.heap.objs.size f cdv)) →
      ∃ t, JSs (cxOf CX0 P w K mg base N x (defScope st) f cdv A outer s H E).nox K (defBody st) t F) : Callee P w K mg base (k + 1) x ps (spF K n fn) := by
  subst hfn hm
  refine D.ok S (fun vs H Q E h => by rw [h.1, hn]) fun f cdv A outer s H vs Q E hr h => ?_
  obtain ⟨t, j⟩ := hb f cdv A outer s H E hr
  refine ⟨t, j.pe, ?_⟩
  obtain ⟨hl, O, ds, d, ok, r, hf, q⟩ := h
  have hl2 : ds.length = n := by rw [← r.length]; exact hl
  unfold runF at hf
  rw [if_pos hl2] at hf
  obtain ⟨o, e1, hf⟩ := bind_some' hf
  refine j.pu H O (hid O H) _ H _ o _ ok (str_start r N) e1 ?_
  cases o with
  | nx ρ => cases hf; exact fun σ' H' t' => q .non H' t'.same .non
  | rt d' => cases hf; exact fun v H' s' r' => q v H' s' r'
  | rl es =>
    cases hf
    refine fun a xs H' s' hn' ha r' => q (.ref a) H' s' ?_
    exact .lst (SqL.of (by rw [hid_out (ok.fresh hn')]; exact ha)) (r'.mono (hid_sub fun b hb => List.mem_cons_of_mem _ hb))
  | rn ess =>
    cases hf
    refine fun a ps H' s' nd' hn' ha r' => q (.ref a) H' s' ?_
    refine .lst (SqL.of (by rw [hid_out (ok.fresh (hn' a List.mem_cons_self))]; exact ha)) (r'.full (hid_sub fun b hb => List.mem_append_right _ hb) fun b hb o e => ?_)
    rw [hid_out (ok.fresh (hn' b (List.mem_cons_of_mem _ hb)))]
    exact e
  | rp es d2 =>
    cases hf
    refine fun p a xs v H' s' ha0 hp0 ha hp r' rv => q (.ref p) H' s' ?_
    have sb : Same (hid (a :: O) H') (hid O H') := hid_sub fun b hb => List.mem_cons_of_mem _ hb
    exact .tup (SqT.of (by rw [hid_out (ok.fresh hp0)]; exact hp)) (.cons (.lst (SqL.of (by rw [hid_out (ok.fresh ha0)]; exact ha)) (r'.mono sb)) (.cons (rv.mono sb) .nil))
  | ro d2 ρ2 => cases hf
  | bk ρ => cases hf
  | ct ρ => cases hf
end
end L2
set_option maxHeartbeats 4000000
namespace L2
open PySem PySem.Spec PyProof.Rows
section
variable {X : Cx} {pins : List (Addr × Obj)} {σ : St} {H : Hp} {s : Shared}
theorem Inv.dict_cls {a : Addr} {kvs : List (Key × V)} (I : Inv X pins σ H s) (h : H a = some (.dK kvs)) : ∃ o, s.heap.get? a = some o ∧ o.cls = .type "dict" := by
  obtain ⟨_, _, vs, _, hd⟩ := I.hok a _ h
  obtain ⟨o, es, ep, e1, e2, _⟩ := hd
  exact ⟨o, e1, e2.1⟩
theorem no_listD {a : Addr} {kvs : List (Key × V)} {xs : List V} (I : Inv X pins σ H s) (h : H a = some (.dK kvs)) (q : SqL X.K H a xs) : False := by
  obtain ⟨_, _, ⟨o, n, e, c, _⟩, _⟩ := I.list q
  obtain ⟨o', e', c'⟩ := I.dict_cls h
  rw [e] at e'
  cases e'
  rw [c] at c'
  exact absurd c' (by intro z; injection z with z; exact absurd z (by decide))
theorem no_tupD {a : Addr} {kvs : List (Key × V)} {xs : List V} (I : Inv X pins σ H s) (h : H a = some (.dK kvs)) (q : SqT X.K H a xs) : False := by
  obtain ⟨_, _, ⟨o, e, c, _⟩, _⟩ := I.tuple q
  obtain ⟨o', e', c'⟩ := I.dict_cls h
  rw [e] at e'
  cases e'
  rw [c] at c'
  exact absurd c' (by intro z; injection z with z; exact absurd z (by decide))
theorem Inv.ins_cls {a C dx : Addr} {fs : List (Str × V)} (I : Inv X pins σ H s) (h : H a = some (.ins C dx fs)) : ∃ o, s.heap.get? a = some o ∧ o.cls = .ref C := by
  obtain ⟨mA, O, _⟩ := ins_get I.hok h
  obtain ⟨od, ⟨e, _⟩, _⟩ := O.look
  exact ⟨_, e, rfl⟩
theorem no_listI {a C dx : Addr} {fs : List (Str × V)} {xs : List V} (I : Inv X pins σ H s) (h : H a = some (.ins C dx fs)) (q : SqL X.K H a xs) : False := by
  obtain ⟨_, _, ⟨o, n, e, c, _⟩, _⟩ := I.list q
  obtain ⟨o', e', c'⟩ := I.ins_cls h
  rw [e] at e'
  cases e'
  rw [c] at c'
  cases c'
theorem no_tupI {a C dx : Addr} {fs : List (Str × V)} {xs : List V} (I : Inv X pins σ H s) (h : H a = some (.ins C dx fs)) (q : SqT X.K H a xs) : False := by
  obtain ⟨_, _, ⟨o, e, c, _⟩, _⟩ := I.tuple q
  obtain ⟨o', e', c'⟩ := I.ins_cls h
  rw [e] at e'
  cases e'
  rw [c] at c'
  cases c'
mutual
theorem Rep.uniq (I : Inv X pins σ H s) : ∀ {x : V} {d d' : D}, Rep X.K H x d → Rep X.K H x d' → d = d'
  | _, _, _, .non, r => by cases r; rfl
  | _, _, _, .bl b, r => by cases r; rfl
  | _, _, _, .int i, r => by cases r; rfl
  | _, _, _, .str x, r => by cases r; rfl
  | _, _, _, .lst q t, r => by
    cases r with
    | lst q' t' =>
      cases I.list_inj q q'
      rw [RepAll.uniq I t t']
    | tup q' t' =>
      obtain ⟨_, _, ⟨o, n, e, c, _⟩, _⟩ := I.list q
      obtain ⟨_, _, ⟨o', e', c', _⟩, _⟩ := I.tuple q'
      rw [e] at e'
      cases e'
      rw [c] at c'
      exact absurd c' (by intro z; injection z with z; exact absurd z (by decide))
    | dic q' => exact (no_listD I q' q).elim
    | obj _ q' _ _ => exact (no_listI I q' q).elim
  | _, _, _, .obj k q t z, r => by
    cases r with
    | dic q' => rw [q] at q'; cases q'
    | lst q' t' => exact (no_listI I q q').elim
    | tup q' t' => exact (no_tupI I q q').elim
    | obj k' q' t' z' =>
      rw [q] at q'
      cases q'
      rw [z, z', RepAll.uniq I t t']
  | _, _, _, .dic q, r => by
    cases r with
    | dic q' => rfl
    | obj _ q' _ _ => rw [q] at q'; cases q'
    | lst q' t' => exact (no_listD I q q').elim
    | tup q' t' => exact (no_tupD I q q').elim
  | _, _, _, .tup q t, r => by
    cases r with
    | dic q' => exact (no_tupD I q' q).elim
    | obj _ q' _ _ => exact (no_tupI I q' q).elim
    | tup q' t' =>
      cases I.tuple_inj q q'
      rw [RepAll.uniq I t t']
    | lst q' t' =>
      obtain ⟨_, _, ⟨o, n, e, c, _⟩, _⟩ := I.list q'
      obtain ⟨_, _, ⟨o', e', c', _⟩, _⟩ := I.tuple q
      rw [e] at e'
      cases e'
      rw [c] at c'
      exact absurd c' (by intro z; injection z with z; exact absurd z (by decide))
theorem RepAll.uniq (I : Inv X pins σ H s) : ∀ {xs : List V} {ds ds' : List D}, RepAll X.K H xs ds → RepAll X.K H xs ds' → ds = ds'
  | _, _, _, .nil, r => by cases r; rfl
  | _, _, _, .cons q t, r => by
    cases r with
    | cons q' t' => rw [Rep.uniq I q q', RepAll.uniq I t t']
end
end
def shapedAll (ds : List D) : Bool := ds.all SeqAt.shaped
section
variable {X : Cx} {K : PySem.W.Frag}
theorem hu66 {A : Around} {k : Nat} (hr : Room k A) : A.units + 66 < cLine := by have := hr.un; omega
def vLS (f : PAs) : SEnv → Option Sl := fun ρ => (f (full ρ)).bind fun ds => if flatAll ds = true then some (.sh (.list ds)) else none
end
section
variable {X : Cx} {K : PySem.W.Frag} {i : Nat} {x : Str} {e : Expr} {te : TE} {pos pos' : Pos}
end
section
variable {X : Cx} {K : PySem.W.Frag} {tg elt iter : Expr} {ifs : List Expr} {scope : Scope} {wi : TI} {g : TG} {tc : TT} {te : TE} {fi : PAs} {bd : D → PEnv → Option PEnv} {pt : PB} {fe : PF}
theorem js_setCompV {pos spos py : Pos} {i : Nat} {y : Str} (vk : PAs → SEnv → Option Sl) (hvk : ∀ {te : TE} {fl : PAs}, PuL K te fl → PuV K te (vk fl)) (own : List Str) (fv : List (Nat × Str)) (hN : X.N.Nodup) (hy : X.N[i]? = some y) (hx : Loc X.env.scope y) (hc : X.calm = true) (hi : JI X K tg iter wi fi) (fo : FvOk X scope fv) (gk : GKeep own.length g)
    (bg : ∀ fp pins s H, JG (cxComp X (own ++ fv.map (·.2)) scope (clF X.env scope.names []) fp pins s H) K tg g bd)
    (bt : ∀ fp pins s H, JTs (cxComp X (own ++ fv.map (·.2)) scope (clF X.env scope.names []) fp pins s H) K ifs tc pt)
    (be : ∀ fp pins s H, JE (cxComp X (own ++ fv.map (·.2)) scope (clF X.env scope.names []) fp pins s H) K elt te fe)
    (kind : scope.kind = .function) (cell : ∀ y ∈ scope.names, y.2 ≠ .cell) (names : ∀ x ∈ scope.names, x.2 = .local → scope.names.lookup x.1 = some .local)
    (free : freeOk X scope = true)
    (hsw : swapsWith (.ListComp elt [⟨tg, iter, ifs, 0⟩] scope pos) (some (.Name y py)) spos.line X.env = pure true)
    (hs : ∀ x, foldedSetIterable iter X.env x = pure x := by intro _; rfl) (hf : X.fn y = true ∨ X.env.scope.names.lookup y = some .local := by first | exact Or.inl rfl | exact Or.inr rfl) :
    JS X K (.Assign [.Name y py] (.ListComp elt [⟨tg, iter, ifs, 0⟩] scope pos) spos) (tAsg (tComp wi g tc te own.length fv) (gName i)) (pSet i (vk (pComp fi bd pt fe own.length (fv.map (·.1))))) :=
  js_set' (ps_setComp own fv hN hy hx hc hi.pe fo gk (fun fp pins s H => (bg fp pins s H).pe) (fun fp pins s H => (bt fp pins s H).pe) (fun fp pins s H => (be fp pins s H).pe) kind cell names free hsw hs hf)
    (hvk (pu_comp hi.pu (bg [] [] X.s₀ X.H₀).pu (bt [] [] X.s₀ X.H₀).pu (be [] [] X.s₀ X.H₀).pu _ _))
def vSL (f : PAs) : SEnv → Option Sl := vS (pOfL f)
theorem pv_SL {te : TE} {fl : PAs} (h : PuL K te fl) : PuV K te (vSL fl) := by
  refine pv_S ?_
  intro O σ H ρ d Q ok er hf q
  have hf' : (fl ρ).map PyData.list = some d := hf
  cases e1 : fl ρ with
  | none => rw [e1] at hf'; cases hf'
  | some ds =>
    rw [e1] at hf'
    cases hf'
    refine h O σ H ρ ds Q ok er e1 fun a xs H' s hn ha r => q _ H' s ?_
    have na : a ∉ O := ok.fresh hn
    exact .lst (SqL.of (by rw [hid_out na]; exact ha)) (r.mono (hid_sub fun b hb => List.mem_cons_of_mem _ hb))
end
section
variable {X : Cx} {K : PySem.W.Frag} {pos : Pos}
theorem js_appS (i : Nat) {x : Str} {e : Expr} {te : TE} {f : PF} {p apos cpos : Pos} (he : JE X K e te f) (hK : X.K = K) (hN : X.N[i]? = some x := by rfl) (hv : Vis X.env.scope x := by first | exact Or.inl rfl | exact Or.inr (Or.inl rfl) | exact Or.inr (Or.inr rfl)) (hd : (x == ("__debug__" : Str)) = false := by decide)
    (hcd : (x == ("__classdict__" : Str)) = false := by decide) (hbase : attributeBase (.Name x p) "append" X.env (eval (.Name x p) X.env) = eval (.Name x p) X.env := by rfl)
    (hfew : ((backTo cpos (starEach [e] X.env)).all (fun x => !x.1) && (backToKw cpos (keywordEach [] X.env)).all (fun x => x.1.isSome)
      && decide ([e].length + ([] : List Keyword).length + (if ([] : List Keyword).isEmpty then 0 else 1) < 30)) = true := by rfl)
    (hline : (apos.endLine == cpos.line) = true := by rfl) (hs : starEach [e] X.env = (false, eval e X.env) :: starEach [] X.env := by rfl) (hplain : (backTo cpos (starEach [] X.env)).any (·.1) = false := by rfl)
    (hs2 : swapsWith (.Call (.Attribute (.Name x p) "append" apos) [e] [] cpos) none pos.line X.env = pure false := by rfl) :
    JS X K (.Expr (.Call (.Attribute (.Name x p) "append" apos) [e] [] cpos) pos) (tDrop (tBM K "list" rAppend (tVar i) (tCons te tNil))) (pApp i (vS f)) := js_app i he.pe (pv_S he.pu) hK hN hv hd hcd hbase hfew hline hs hplain hs2
theorem js_appF (i : Nat) {x : Str} {e : Expr} {te : TE} {f : PF} {p apos cpos : Pos} (he : JE X K e te f) (hK : X.K = K) (hN : X.N[i]? = some x := by rfl) (hv : Vis X.env.scope x := by first | exact Or.inl rfl | exact Or.inr (Or.inl rfl) | exact Or.inr (Or.inr rfl)) (hd : (x == ("__debug__" : Str)) = false := by decide)
    (hcd : (x == ("__classdict__" : Str)) = false := by decide) (hbase : attributeBase (.Name x p) "append" X.env (eval (.Name x p) X.env) = eval (.Name x p) X.env := by rfl)
    (hfew : ((backTo cpos (starEach [e] X.env)).all (fun x => !x.1) && (backToKw cpos (keywordEach [] X.env)).all (fun x => x.1.isSome)
      && decide ([e].length + ([] : List Keyword).length + (if ([] : List Keyword).isEmpty then 0 else 1) < 30)) = true := by rfl)
    (hline : (apos.endLine == cpos.line) = true := by rfl) (hs : starEach [e] X.env = (false, eval e X.env) :: starEach [] X.env := by rfl) (hplain : (backTo cpos (starEach [] X.env)).any (·.1) = false := by rfl)
    (hs2 : swapsWith (.Call (.Attribute (.Name x p) "append" apos) [e] [] cpos) none pos.line X.env = pure false := by rfl) :
    JS X K (.Expr (.Call (.Attribute (.Name x p) "append" apos) [e] [] cpos) pos) (tDrop (tBM K "list" rAppend (tVar i) (tCons te tNil))) (pApp i (vF f)) := js_app i he.pe (pv_F he.pu) hK hN hv hd hcd hbase hfew hline hs hplain hs2
end
def spLawP (K : PySem.W.Frag) : Sp := fun vs H Q _ => ∃ (a : Addr) (ns : List Int), vs = [.ref a] ∧ SqL K H a (ns.map V.int) ∧ ns.length ≤ 63 ∧ ∀ H', Q (.bl true) H'
theorem rep_ints {K : PySem.W.Frag} {H : Hp} : ∀ ns : List Int, RepAll K H (ns.map V.int) (ns.map PyData.int)
  | [] => .nil
  | n :: r => .cons (.int n) (rep_ints r)
theorem Callee.law {P : Program} {w : World} {K : PySem.W.Frag} {mg : Str → Option Value} {base : Heap} {k : Nat} {x : Str} {ps : List Str} {f : List D → Option D} (C : Callee P w K mg base k x ps (spF K 1 f))
    (h : ∀ ns : List Int, ns.length ≤ 63 → f [.list (ns.map PyData.int)] = some (.bool true)) : Callee P w K mg base k x ps (spLawP K) :=
  C.imp fun vs H Q E ⟨a, ns, e, hq, hl, q⟩ => by
    subst e
    refine ⟨rfl, [], [.list (ns.map PyData.int)], .bool true, OkO.nil, ?_, h ns hl, fun v H' s' r => ?_⟩
    · rw [hid_nil]
      exact .cons (.lst hq (rep_ints ns)) .nil
    · cases r
      exact q H'
end L2
set_option maxHeartbeats 4000000
namespace L2
open PySem PySem.Spec PyProof.Rows
section
variable {X : Cx} {K : PySem.W.Frag}
def tRev (K : PySem.W.Frag) (te : TE) : TE := fun σ H Q => te σ H fun x H1 => ∃ a xs, x = .ref a ∧ SqL K H1 a xs ∧ ∀ p, H1 p = none → Q (.ref p) (upd H1 p (.lst xs.reverse))
def pRev (f : PF) : PAs := fun ρ => (f ρ).bind fun d => (asL d).bind fun ds => some ds.reverse
theorem RepAll.reverse {H : Hp} : ∀ {xs : List V} {ds : List D}, RepAll K H xs ds → RepAll K H xs.reverse ds.reverse
  | _, _, .nil => .nil
  | _, _, .cons a b => by
    rw [List.reverse_cons, List.reverse_cons]
    exact (RepAll.reverse b).append (.cons a .nil)
theorem pe_rev {e : Expr} {te : TE} {j : Nat} {p1 p2 p3 pos : Pos} (he : PE X e te) : PE X (.Subscript e (.Slice none none (some (.UnaryOp .USub (.Constant (.int 1) j p1) p2)) p3) pos) (tRev X.K te) := by
  intro pins s σ H Q I h
  refine Subscript_ (thn (he pins s σ H _ I h) fun v s1 ⟨x, H1, I1, r1, q1⟩ => ?_)
  obtain ⟨a, xs, rfl, hx, q⟩ := q1
  cases r1
  refine wpAny_Slice ?_
  rw [evalPart_none]
  refine wpAny_pure ?_
  refine wpAny_pure ?_
  rw [evalPart_some]
  refine thn ((pe_un un_neg pe_int : PE X (.UnaryOp .USub (.Constant (.int 1) j p1) p2) _) pins s1 σ H1 (fun v H' => H' = H1 ∧ v = .int (-1)) I1 ⟨1, rfl, rfl, rfl⟩) fun st s2 ⟨y, H2, I2, ry, hH, hy⟩ => ?_
  subst hH hy
  obtain ⟨t, rfl⟩ := ry
  have I4 : Inv X pins σ H2 { s2 with heap := s2.heap.push { cls := .type "slice", data := .fields #[.none, .none, .int (-1) t] } } := I2.kept (t' := s2.toks) fun b ob q => Heap.get?_push_of_some _ q
  obtain ⟨its, r, ht, hz⟩ := I4.list hx
  show wpAny (model X.prog X.w) X.A (subscriptTail e _ (.ref a) (.ref s2.heap.objs.size)) (EP X pins σ Q) X.xe { s2 with heap := s2.heap.push { cls := .type "slice", data := .fields #[.none, .none, .int (-1) t] } }
  refine tail_any (ops := [.ref a, .ref s2.heap.objs.size]) ht.isList.typeIs slot_list_getitem.lookup (wpAny_getItem_list_slice ht.isList (Heap.IsSliceOf.new ..) .none .none (.int (-1) t) (by simp) ?_ (by rw [List.size_toArray, ← r.length]; exact hz)) (by with_unfolding_all rfl)
  rw [W.krv_pick]
  refine ⟨.ref _, _, I4.laid (t' := s2.toks) (o := .lst xs.reverse) (fun b ob q => Heap.get?_push_of_some _ q) (Nat.le_refl _) ?_, rfl, q _ (I4.hok.fresh (Nat.le_refl _))⟩
  exact ⟨by simpa using hz, _, 0, by simpa using r.reverse, Heap.get?_push_size _ rfl⟩
theorem jl_rev {e : Expr} {te : TE} {f : PF} {j : Nat} {p1 p2 p3 pos : Pos} (hK : X.K = K) (he : JE X K e te f) : JL X K (.Subscript e (.Slice none none (some (.UnaryOp .USub (.Constant (.int 1) j p1) p2)) p3) pos) (tRev K te) (pRev f) := ⟨by subst hK; exact pe_rev he.pe, by
  intro O σ H ρ es Q ok er hf q
  obtain ⟨x, e1, hf⟩ := bind_some' hf
  obtain ⟨ds, e2, hf⟩ := bind_some' hf
  cases hf
  refine he.pu O σ H ρ x _ ok er e1 fun v H1 s1 r1 => ?_
  cases r1 with
  | lst hq r' =>
    cases e2
    exact ⟨_, _, rfl, hid_le.seq hq, fun p hp => q p _ _ (s1.trans (Same.new hp)) (s1.free hp) upd_same (r'.reverse.mono (hid_new hp))⟩
  | _ => cases e2⟩
def pPopI (i : Nat) (fi : PF) : PSt := fun ρ => (fi (full ρ)).bind fun kd => (asI kd).bind fun k => (ρ[i]?).bind fun s' => (asOw s').bind fun ds => if 0 ≤ k ∧ k < ds.length ∧ fits ds.length = true then some (.nx (ρ.set i (.ow (ds.eraseIdx k.toNat)))) else none
theorem RepAll.eraseIdx {H : Hp} : ∀ {xs : List V} {ds : List D} (k : Nat), RepAll K H xs ds → RepAll K H (xs.eraseIdx k) (ds.eraseIdx k)
  | _, _, _, .nil => .nil
  | _, _, 0, .cons _ b => b
  | _, _, k + 1, .cons a b => .cons a (RepAll.eraseIdx k b)
theorem js_popI (i : Nat) {x : Str} {e : Expr} {te : TE} {f : PF} {p apos cpos pos : Pos} (he : JE X K e te f) (hK : X.K = K) (hN : X.N[i]? = some x := by rfl) (hv : Vis X.env.scope x := by first | exact Or.inl rfl | exact Or.inr (Or.inl rfl) | exact Or.inr (Or.inr rfl)) (hd : (x == ("__debug__" : Str)) = false := by decide)
    (hcd : (x == ("__classdict__" : Str)) = false := by decide) (hbase : attributeBase (.Name x p) "pop" X.env (eval (.Name x p) X.env) = eval (.Name x p) X.env := by rfl)
    (hfew : ((backTo cpos (starEach [e] X.env)).all (fun x => !x.1) && (backToKw cpos (keywordEach [] X.env)).all (fun x => x.1.isSome)
      && decide ([e].length + ([] : List Keyword).length + (if ([] : List Keyword).isEmpty then 0 else 1) < 30)) = true := by rfl)
    (hline : (apos.endLine == cpos.line) = true := by rfl) (hs : starEach [e] X.env = (false, eval e X.env) :: starEach [] X.env := by rfl) (hplain : (backTo cpos (starEach [] X.env)).any (·.1) = false := by rfl)
    (hs2 : swapsWith (.Call (.Attribute (.Name x p) "pop" apos) [e] [] cpos) none pos.line X.env = pure false := by rfl) :
    JS X K (.Expr (.Call (.Attribute (.Name x p) "pop" apos) [e] [] cpos) pos) (tDrop (tBM K "list" rPopAt (tVar i) (tCons te tNil))) (pPopI i f) := ⟨by
  subst hK
  exact ps_expr (pe_bm PySem.F.plainAttrs_list PySem.F.slot_list_pop PySem.F.type_list_pop mt_popAt (pe_var hN hv hd hcd) (pa_cons he.pe pa_nil hs) hbase hfew hline hs hplain) hs2, by
  intro H0 O0 G σ H ρ o E ok s hf q
  obtain ⟨kd, e1, hf⟩ := bind_some' hf
  obtain ⟨k, e2, hf⟩ := bind_some' hf
  obtain ⟨sl2, e3, hf⟩ := bind_some' hf
  obtain ⟨ds, e4, hf⟩ := bind_some' hf
  rw [asOw_eq e4] at e3
  by_cases hc : 0 ≤ k ∧ k < ds.length ∧ fits ds.length = true
  · rw [if_pos hc] at hf
    cases hf
    obtain ⟨a0, xs0, h10, h20, h30⟩ := s.getOw e3
    refine ⟨_, h10, .inl ⟨rfl, _, SqL.of h20⟩, ?_⟩
    refine s.evalF he.pu ok e1 fun v H1 s1 t1 rv => ?_
    obtain ⟨O, s0, n, nd, g, sl⟩ := t1.ex
    obtain ⟨a, xs, h1, h2, h3, h4⟩ := sl.getOw e3
    rw [h10] at h1
    cases h1
    have hl := h4.length
    have hsz : sizeLine = 16777216 := sizeLine_eq
    have hfit : ds.length < sizeLine := of_decide_eq_true hc.2.2
    cases rv with
    | int m =>
      obtain rfl : m = k := Option.some.inj e2
      have hkl : m.toNat < xs.length := by omega
      refine ⟨a0, xs, m, m.toNat, xs[m.toNat], rfl, rfl, h3, by omega, by omega, seqIndex_of hc.1 (by omega), by simp [hkl], q σ _ ⟨O, fun b o e => ?_, n, nd, ?_, ?_⟩⟩
      · rw [upd_ne (ne_of_none e (n a0 h2))]
        exact s0 b o e
      · rw [hid_upd (by simp [h2])]
        exact g
      · rw [hid_upd (by simp [h2])]
        exact sl.write (h4.eraseIdx _) nd e3 h10
    | _ => cases e2
  · rw [if_neg hc] at hf
    cases hf⟩
end
end L2
set_option maxHeartbeats 4000000
namespace L2
open PySem PySem.Spec PyProof.Rows
section
variable {prog : Program} {w : World} {A : Around} {E : Value → Shared → Prop} {s : Shared} {z TI TO i1 i2 l1 l2 T : Addr} {f : Bool} {oT : Obj}
end
section
variable {X : Cx} {pins : List (Addr × Obj)} {σ : St} {H1 : Hp} {z TI TO i1 i2 a b S : Addr} {xs ys : List V}
end
section
variable {X : Cx} {K : PySem.W.Frag}
end
end L2
set_option maxHeartbeats 4000000
namespace L2
open PySem PySem.Spec PyProof.Rows
section
variable {X : Cx} {K : PySem.W.Frag} {tg : Expr}
end
section
variable {X : Cx} {K : PySem.W.Frag} {tg : Expr}
end
section
variable {X : Cx} {K : PySem.W.Frag} {pos : Pos}
end
end L2
set_option maxHeartbeats 4000000
namespace L2
open PySem PySem.Spec PyProof.Rows
theorem runF_of {n m : Nat} {F : PSt} {ds : List D} {o : Out} {d : D} (hl : ds.length = n) (h : F (startP m ds) = some o) (ho : outD o = some d) : runF n m F ds = some d := by
  unfold runF
  rw [if_pos hl, h]
  exact ho
theorem dAdd_int (a b : Int) : dAdd (.int a) (.int b) = some (.int (a + b)) := rfl
theorem dSub_int (a b : Int) : dSub (.int a) (.int b) = some (.int (a - b)) := rfl
theorem dMul_int (a b : Int) : dMul (.int a) (.int b) = if (small a || small b) = true then some (.int (a * b)) else none := rfl
theorem dMod_int (a b : Int) : dMod (.int a) (.int b) = if 0 < b then some (.int (a % b)) else none := by
  show (if decide (0 < b) = true then _ else _) = _
  simp only [decide_eq_true_eq]
theorem dDiv_int (a b : Int) : dDiv (.int a) (.int b) = if (0 < b ∧ b < 1073741824) ∨ Wide b then some (.int (a / b)) else none := by
  show (if decide ((0 < b ∧ b < 1073741824) ∨ Wide b) = true then _ else _) = _
  simp only [decide_eq_true_eq]
theorem dPow_int (a b : Int) : dPow (.int a) (.int b) = if 0 ≤ b ∧ b ≤ 1000000 ∧ a.natAbs < 2 ^ 64 then some (.int (a ^ b.toNat)) else none := by
  show (if decide (0 ≤ b ∧ b ≤ 1000000 ∧ a.natAbs < 2 ^ 64) = true then _ else _) = _
  simp only [decide_eq_true_eq]
def tenP (b : Int) : Int := 10 ^ b.toNat
theorem tenP_pos (b : Int) : 0 < tenP b := Int.pow_pos (by decide)
theorem dPow_ten (b : Int) : dPow (.int 10) (.int b) = if 0 ≤ b ∧ b ≤ 1000000 then some (.int (tenP b)) else none := by
  rw [dPow_int]
  have e : (10 : Int).natAbs < 2 ^ 64 := by decide
  simp only [e, and_true]
  rfl
theorem dLt_int (a b : Int) : dLt (.int a) (.int b) = some (.bool (decide (a < b))) := rfl
theorem dLe_int (a b : Int) : dLe (.int a) (.int b) = some (.bool (decide (a ≤ b))) := rfl
theorem dGt_int (a b : Int) : dGt (.int a) (.int b) = some (.bool (decide (b < a))) := rfl
theorem dGe_int (a b : Int) : dGe (.int a) (.int b) = some (.bool (decide (b ≤ a))) := rfl
theorem dNeg_int (a : Int) : dNeg (.int a) = some (.int (-a)) := rfl
theorem dEq_int (a b : Int) : dEq (.int a) (.int b) = some (.bool (decide (a = b))) := by
  simp [dEq, SeqAt.shaped, PyData.canLay0, PyData.depth, PyData.eqv, Bool.beq_eq_decide_eq]
theorem dNe_int (a b : Int) : dNe (.int a) (.int b) = some (.bool (!decide (a = b))) := by
  simp [dNe, SeqAt.shaped, PyData.canLay0, PyData.depth, PyData.eqv, Bool.beq_eq_decide_eq]
theorem dIx_list (ds : List D) (i : Int) : dIx (.list ds) (.int i) = atI ds i := rfl
theorem dIx_tup (ds : List D) (i : Int) : dIx (.tuple ds) (.int i) = atI ds i := rfl
theorem atI_ofNat {α : Type} (xs : List α) (j : Nat) : atI xs (j : Int) = xs[j]? := by
  unfold atI ixN
  by_cases h : j < xs.length
  · rw [if_pos (by omega), if_pos (by omega)]
    simp
  · rw [if_pos (by omega), if_neg (by omega)]
    simp; omega
theorem atI_zero {α : Type} (x : α) (xs : List α) : atI (x :: xs) 0 = some x := atI_ofNat (x :: xs) 0
theorem atI_one {α : Type} (x y : α) (xs : List α) : atI (x :: y :: xs) 1 = some y := atI_ofNat (x :: y :: xs) 1
theorem atI_two {α : Type} (x y z : α) (xs : List α) : atI (x :: y :: z :: xs) 2 = some z := atI_ofNat (x :: y :: z :: xs) 2
theorem fits_lit {n : Nat} (h : n < 16777216) : fits n = true := decide_eq_true h
theorem small_def (i : Int) : small i = decide (-18446744073709551616 < i ∧ i < 18446744073709551616) := rfl
theorem fits_def (n : Nat) : fits n = decide (n < 16777216) := rfl
theorem tyD_list (i : List D) : tyD (.list i) = "list" := rfl
theorem tyD_tup (i : List D) : tyD (.tuple i) = "tuple" := rfl
theorem tyD_bool (i : Bool) : tyD (.bool i) = "bool" := rfl
theorem tyD_int (i : Int) : tyD (.int i) = "int" := rfl
theorem tyD_none : tyD .none = "NoneType" := rfl
theorem subT_refl (t : String) : subT t t = true := by simp [subT]
theorem subT_ib : subT "int" "bool" = false := by decide
theorem subT_bi : subT "bool" "int" = true := by decide
theorem isNon_none : isNon (.none : D) = true := rfl
theorem isNon_int (i : Int) : isNon (.int i : D) = false := rfl
theorem isNon_list (i : List D) : isNon (.list i : D) = false := rfl
theorem isNon_tup (i : List D) : isNon (.tuple i : D) = false := rfl
theorem bnd_some {α β : Type} (a : α) (f : α → Option β) : (some a).bind f = f a := by
  have h : ∀ o : Option α, o = some a → o.bind f = f a := by
    intro o e
    subst e
    rfl
  exact h _ rfl
theorem bnd_none {α β : Type} (f : α → Option β) : (none : Option α).bind f = none := rfl
theorem getI0 {α : Type} (x : α) (xs : List α) : (x :: xs)[0]? = some x := rfl
theorem getIS {α : Type} (x : α) (xs : List α) (i : Nat) : (x :: xs)[i + 1]? = xs[i]? := rfl
theorem asB_bool (b : Bool) : asB (.bool b) = some b := rfl
theorem asI_int (b : Int) : asI (.int b) = some b := rfl
theorem asL_list (b : List D) : asL (.list b) = some b := rfl
theorem asT_tup (b : List D) : asT (.tuple b) = some b := rfl
theorem asSh_sh (b : D) : asSh (.sh b) = some b := rfl
theorem asOw_ow (b : List D) : asOw (.ow b) = some b := rfl
theorem view_sh (d : D) : Sl.view (.sh d) = some d := rfl
theorem view_ow (d : List D) : Sl.view (.ow d) = some (.list d) := rfl
theorem view_no : Sl.view .no = none := rfl
theorem mask_sh (d : D) : Sl.mask (.sh d) = some d := rfl
theorem mask_ow (d : List D) : Sl.mask (.ow d) = none := rfl
theorem mask_no : Sl.mask .no = none := rfl
theorem gLen_list (ds : List D) : gLen [.list ds] = some (.int ds.length) := rfl
theorem gLen_tup (ds : List D) : gLen [.tuple ds] = some (.int ds.length) := rfl
theorem gList_list (ds : List D) : gList [.list ds] = some ds := rfl
theorem gList_tup (ds : List D) : gList [.tuple ds] = some ds := rfl
theorem gEnum_list (ds : List D) : gEnum [.list ds] = some (enumD ds) := rfl
theorem gZip_list (ds es : List D) : gZip [.list ds, .list es] = some (zipD ds es) := rfl
theorem gMax_int (i j : Int) : gMax [.int i, .int j] = some (.int (max i j)) := rfl
theorem gMin_int (i j : Int) : gMin [.int i, .int j] = some (.int (min i j)) := rfl
theorem gInt_bool (b : Bool) : gInt [.bool b] = some (.int (if b then 1 else 0)) := rfl
theorem gInt_int (b : Int) : gInt [.int b] = some (.int b) := rfl
theorem gRange1_int (j : Int) (h : -4611686018427387904 ≤ j ∧ j < 4611686018427387904) : gRange1 [.int j] = some (rangeD 0 j.toNat) := if_pos h
theorem startP_eq (m : Nat) (ds : List D) : startP m ds = ds.map .sh ++ List.replicate (m - ds.length) .no := rfl
theorem flatD_int (i : Int) : flatD (.int i) = true := by simp [flatD]
theorem flatD_bool (i : Bool) : flatD (.bool i) = true := by simp [flatD]
theorem flatD_none : flatD .none = true := by simp [flatD]
theorem flatD_tup (ds : List D) : flatD (.tuple ds) = flatAll ds := by simp [flatD]
theorem flatAll_nil : flatAll [] = true := rfl
theorem flatAll_cons (d : D) (ds : List D) : flatAll (d :: ds) = (flatD d && flatAll ds) := rfl
theorem ite_true' {α : Type} (a b : α) : (if true = true then a else b) = a := rfl
theorem ite_false' {α : Type} (a b : α) : (if false = true then a else b) = b := rfl
theorem compP_map {α : Type} {bd : D → PEnv → Option PEnv} {pt : PB} {fe : PF} {ρ0 : PEnv} (enc : α → D) (p : α → Bool) (h : α → D) : ∀ (xs : List α), (∀ x ∈ xs, ∃ ρ1, bd (enc x) ρ0 = some ρ1 ∧ pt ρ1 = some (p x) ∧ (p x = true → fe ρ1 = some (h x))) →
    compP bd pt fe ρ0 (xs.map enc) = some ((xs.filter p).map h)
  | [], _ => rfl
  | x :: xs, H => by
    obtain ⟨ρ1, h1, h2, h3⟩ := H x List.mem_cons_self
    have ih := compP_map enc p h xs fun y hy => H y (List.mem_cons_of_mem _ hy)
    rw [List.map_cons]
    unfold compP
    rw [h1, bnd_some, h2, bnd_some, ih]
    cases hp : p x with
    | true => rw [if_pos rfl, h3 hp, bnd_some, bnd_some, List.filter_cons_of_pos hp]; rfl
    | false => rw [if_neg Bool.false_ne_true, List.filter_cons_of_neg (by rw [hp]; exact Bool.false_ne_true)]
theorem compP_mapT {α : Type} {bd : D → PEnv → Option PEnv} {fe : PF} {ρ0 : PEnv} (enc : α → D) (h : α → D) (xs : List α) (H : ∀ x ∈ xs, ∃ ρ1, bd (enc x) ρ0 = some ρ1 ∧ fe ρ1 = some (h x)) :
    compP bd pTrue fe ρ0 (xs.map enc) = some (xs.map h) := by
  have := compP_map (pt := pTrue) enc (fun _ => true) h xs fun x hx => by
    obtain ⟨ρ1, h1, h2⟩ := H x hx
    exact ⟨ρ1, h1, rfl, fun _ => h2⟩
  rw [this, List.filter_eq_self.mpr (fun _ _ => rfl)]
theorem forP_nx {bs : D → SEnv → Option SEnv} {F : PSt} {d : D} {ds : List D} {ρ ρ1 ρ2 : SEnv} (h1 : bs d ρ = some ρ1) (h2 : F ρ1 = some (.nx ρ2)) : forP bs F (d :: ds) ρ = forP bs F ds ρ2 := by
  simp only [forP, h1, h2, bnd_some]
theorem forP_rt {bs : D → SEnv → Option SEnv} {F : PSt} {d r : D} {ds : List D} {ρ ρ1 : SEnv} (h1 : bs d ρ = some ρ1) (h2 : F ρ1 = some (.rt r)) : forP bs F (d :: ds) ρ = some (.rt r) := by
  simp only [forP, h1, h2, bnd_some]
theorem for_inv {α S : Type} {bs : D → SEnv → Option SEnv} {F : PSt} (enc : α → D) (R : S → SEnv → Prop) (step : S → α → S) : ∀ (xs : List α), (∀ s ρ x, x ∈ xs → R s ρ → ∃ ρ1 ρ2, bs (enc x) ρ = some ρ1 ∧ F ρ1 = some (.nx ρ2) ∧ R (step s x) ρ2) →
    ∀ s ρ, R s ρ → ∃ ρ', forP bs F (xs.map enc) ρ = some (.nx ρ') ∧ R (xs.foldl step s) ρ'
  | [], _, s, ρ, r => ⟨ρ, rfl, r⟩
  | x :: xs, H, s, ρ, r => by
    obtain ⟨ρ1, ρ2, h1, h2, r2⟩ := H s ρ x List.mem_cons_self r
    obtain ⟨ρ', h3, r3⟩ := for_inv enc R step xs (fun s ρ y hy => H s ρ y (List.mem_cons_of_mem _ hy)) (step s x) ρ2 r2
    exact ⟨ρ', by rw [List.map_cons, forP_nx h1 h2]; exact h3, r3⟩
theorem for_range_inv {bs : D → SEnv → Option SEnv} {F : PSt} {lo : Int} (R : Nat → SEnv → Prop) (n : Nat) (H : ∀ i ρ, i < n → R i ρ → ∃ ρ1 ρ2, bs (.int (lo + (i : Nat))) ρ = some ρ1 ∧ F ρ1 = some (.nx ρ2) ∧ R (i + 1) ρ2) (ρ : SEnv) (r : R 0 ρ) :
    ∃ ρ', forP bs F (rangeD lo n) ρ = some (.nx ρ') ∧ R n ρ' := by
  have key : ∀ (k i : Nat) (ρ : SEnv), i + k = n → R i ρ → ∃ ρ', forP bs F ((List.range' i k).map fun i => .int (lo + (i : Nat))) ρ = some (.nx ρ') ∧ R n ρ' := by
    intro k
    induction k with
    | zero => intro i ρ h r; have e : i = n := by omega
              subst e; exact ⟨ρ, rfl, r⟩
    | succ k ih =>
      intro i ρ h r
      obtain ⟨ρ1, ρ2, h1, h2, r2⟩ := H i ρ (by omega) r
      obtain ⟨ρ', h3, r3⟩ := ih (i + 1) ρ2 (by omega) r2
      exact ⟨ρ', by rw [List.range'_succ, List.map_cons, forP_nx h1 h2]; exact h3, r3⟩
  have := key n 0 ρ (by omega) r
  unfold rangeD
  rw [List.range_eq_range']
  exact this
theorem sq_nx {F F' : PSt} {ρ ρ' : SEnv} {o : Option Out} (h : F ρ = some (.nx ρ')) (h' : F' ρ' = o) : pSq F F' ρ = o := by
  unfold pSq
  rw [h]
  exact h'
theorem sq_rt {F F' : PSt} {ρ : SEnv} {d : D} (h : F ρ = some (.rt d)) : pSq F F' ρ = some (.rt d) := by
  unfold pSq
  rw [h]
  rfl
theorem for_eq {fi : PAs} {bs : D → SEnv → Option SEnv} {F : PSt} {ρ : SEnv} {items : List D} (h : fi (masked ρ) = some items) : pFor fi bs F ρ = forP bs F items ρ := by
  unfold pFor
  rw [h]
  rfl
theorem comp_eq {fi : PAs} {bd : D → PEnv → Option PEnv} {pt : PB} {fe : PF} {n : Nat} {is : List Nat} {ρ : PEnv} {items : List D} (h : fi ρ = some items) (hl : items.length < 16777216) : pComp fi bd pt fe n is ρ = compP bd pt fe (compEnv n is ρ) items := by
  unfold pComp
  rw [h, bnd_some, if_pos (fits_lit hl)]
theorem dEq_T (t u : Thing) : dEq (encD t) (encD u) = some (.bool (decide (t = u))) := by
  unfold dEq
  rw [if_pos ⟨shaped_T t, shaped_T u⟩, eqv_T]
theorem dNe_T (t u : Thing) : dNe (encD t) (encD u) = some (.bool (!decide (t = u))) := by
  unfold dNe
  rw [if_pos ⟨shaped_T t, shaped_T u⟩, eqv_T]
theorem dNe_N (t : Thing) : dNe (encD t) (.tuple []) = some (.bool (!decide (t = none))) := dNe_T t none
theorem dEq_N (t : Thing) : dEq (encD t) (.tuple []) = some (.bool (decide (t = none))) := dEq_T t none
theorem dEq_L (ts us : List Thing) : dEq (.list (ts.map encD)) (.list (us.map encD)) = some (.bool (decide (ts = us))) := by
  unfold dEq
  rw [if_pos ⟨shaped_L ts, shaped_L us⟩, eqv_L]
theorem dNe_L (ts us : List Thing) : dNe (.list (ts.map encD)) (.list (us.map encD)) = some (.bool (!decide (ts = us))) := by
  unfold dNe
  rw [if_pos ⟨shaped_L ts, shaped_L us⟩, eqv_L]
theorem flat_T (t : Thing) : flatD (encD t) = true := by
  cases t with
  | none => rfl
  | some kw => obtain ⟨k, w⟩ := kw; rfl
theorem flat_Ts : ∀ ts : List Thing, flatAll (ts.map encD) = true
  | [] => rfl
  | t :: r => by rw [List.map_cons, flatAll_cons, flat_T, flat_Ts r]; rfl
theorem dEq_ints (a b : List Int) : dEq (.list (a.map PyData.int)) (.list (b.map PyData.int)) = some (.bool (decide (a = b))) := by
  have sh : ∀ l : List Int, PyData.canLayAll0 (l.map PyData.int) = true ∧ PyData.depthAll (l.map PyData.int) ≤ 1 := by
    intro l
    induction l with
    | nil => simp [PyData.canLayAll0, PyData.depthAll]
    | cons n r ih => simp only [List.map_cons, PyData.canLayAll0, PyData.depthAll, PyData.canLay0, PyData.depth, ih.1, Bool.and_self, true_and]; have := ih.2; omega
  have sp : ∀ l : List Int, SeqAt.shaped (.list (l.map PyData.int)) = true := fun l => by
    unfold SeqAt.shaped
    simp only [PyData.canLay0, PyData.depth, (sh l).1, Bool.true_and]
    exact decide_eq_true (by have := (sh l).2; omega)
  have ev : ∀ a b : List Int, PyData.eqvAll (a.map PyData.int) (b.map PyData.int) = decide (a = b) := by
    intro a
    induction a with
    | nil => intro b; cases b <;> simp [PyData.eqvAll]
    | cons x r ih =>
      intro b
      cases b with
      | nil => simp [PyData.eqvAll]
      | cons y q => simp only [List.map_cons, PyData.eqvAll, PyData.eqv, ih q]; by_cases h1 : x = y <;> by_cases h2 : r = q <;> simp [h1, h2]
  unfold dEq
  rw [if_pos ⟨sp a, sp b⟩]
  simp only [PyData.eqv]
  rw [ev]
theorem dEq_ints_nil (a : List Int) : dEq (.list (a.map PyData.int)) (.list []) = some (.bool (decide (a = []))) := dEq_ints a []
theorem dEq_L_nil (a : List Thing) : dEq (.list (a.map encD)) (.list []) = some (.bool (decide (a = []))) := dEq_L a []
end L2
set_option maxHeartbeats 4000000
namespace L2
open PySem PySem.Spec PyProof.Rows
abbrev PNs := PEnv → Option (List (List D))
def PuN (K : PySem.W.Frag) (te : TE) (f : PNs) : Prop := ∀ (O : List Addr) (σ : St) (H : Hp) (ρ : PEnv) (dss : List (List D)) (Q : VK), OkO O H → EnvR K (hid O H) σ ρ → f ρ = some dss →
  (∀ a ps H', Same H H' → (a :: ps).Nodup → (∀ b ∈ a :: ps, H b = none) → H' a = some (.lst (ps.map V.ref)) → Inner K (hid ((a :: ps) ++ O) H') H' ps dss → Q (.ref a) H') → te σ H Q
structure JN (X : Cx) (K : PySem.W.Frag) (e : Expr) (te : TE) (f : PNs) : Prop where
  pe : PE X e te
  pu : PuN K te f
def pOfN (f : PNs) : PAs := fun ρ => (f ρ).bind fun dss => some (dss.map .list)
section
variable {X : Cx} {K : PySem.W.Frag}
def PuAL (K : PySem.W.Frag) (t : TA) (f : PNs) : Prop := ∀ (O : List Addr) (σ : St) (H : Hp) (ρ : PEnv) (dss : List (List D)) (Q : List V → Hp → Prop), OkO O H → EnvR K (hid O H) σ ρ → f ρ = some dss →
  (∀ ps H', Same H H' → ps.Nodup → (∀ b ∈ ps, H b = none) → Inner K (hid (ps ++ O) H') H' ps dss → Q (ps.map V.ref) H') → t σ H Q
structure JAL (X : Cx) (K : PySem.W.Frag) (es : List Expr) (t : TA) (f : PNs) : Prop where
  pe : PA X es t
  pu : PuAL K t f
def pNilN : PNs := fun _ => some []
def pConsN (a : PAs) (r : PNs) : PNs := fun ρ => (a ρ).bind fun x => (r ρ).bind fun xs => some (x :: xs)
def pLstN (r : PNs) : PNs := fun ρ => (r ρ).bind fun xs => if fits xs.length = true then some xs else none
end
section
variable {K : PySem.W.Frag} {wi : TI} {g : TG} {tc : TT} {te : TE} {fi : PAs} {bd : D → PEnv → Option PEnv} {pt : PB} {fe : PAs}
end
def vN (f : PNs) : SEnv → Option Sl := fun ρ => (f (masked ρ)).bind fun dss => some (.on dss)
section
variable {X : Cx} {K : PySem.W.Frag}
section
variable {i : Nat} {x : Str} {e : Expr} {te : TE} {pos pos' : Pos}
end
section
variable {tg elt iter : Expr} {ifs : List Expr} {scope : Scope} {wi : TI} {g : TG} {tc : TT} {te : TE} {fi : PAs} {bd : D → PEnv → Option PEnv} {pt : PB} {fe : PAs}
end
theorem view_on (d : List (List D)) : Sl.view (.on d) = some (.list (d.map .list)) := rfl
theorem mask_on (d : List (List D)) : Sl.mask (.on d) = none := rfl
def asOn : Sl → Option (List (List D))
  | .on dss => some dss
  | _ => none
theorem asOn_on (d : List (List D)) : asOn (.on d) = some d := rfl
def pSetII (i : Nat) (fi fj : PF) (vf : SEnv → Option Sl) : PSt := fun ρ => (vf ρ).bind fun s => (asSh s).bind fun d => (fi (full ρ)).bind fun kd => (asI kd).bind fun k => (fj (full ρ)).bind fun md => (asI md).bind fun m => (ρ[i]?).bind fun s' => (asOn s').bind fun dss =>
  (ixN dss.length k).bind fun u => (dss[u]?).bind fun ds => (ixN ds.length m).bind fun j => some (.nx (ρ.set i (.on (dss.set u (ds.set j d)))))
def pRetON (i : Nat) : PSt := fun ρ => (ρ[i]?).bind fun s => (asOn s).bind fun dss => some (.rn dss)
def pRetNN (f : PNs) : PSt := fun ρ => (f (full ρ)).bind fun d => some (.rn d)
def pCallN (f : List D → Option (List (List D))) (r : PAs) : PNs := fun ρ => (r ρ).bind f
end
section
variable {P : Program} {w : World} {K : PySem.W.Frag} {mg : Str → Option Value} {base : Heap}
end
section
variable {K : PySem.W.Frag} {G H : Hp}
end
def pClearN (i : Nat) : PSt := fun ρ => (ρ[i]?).bind fun s => (asOn s).bind fun _ => some (.nx (ρ.set i .no))
def pClearNI (i : Nat) (fi : PF) : PSt := fun ρ => (fi (full ρ)).bind fun kd => (asI kd).bind fun k => (ρ[i]?).bind fun s => (asOn s).bind fun dss => (ixN dss.length k).bind fun u => (dss[u]?).bind fun _ => some (.nx (ρ.set i (.on (dss.set u []))))
def pForClear (i j : Nat) : PSt := fun ρ => (ρ[i]?).bind fun s => (asOn s).bind fun _ => if j < ρ.length ∧ j ≠ i then some (.nx ((ρ.set i .no).set j .no)) else none
section
variable {X : Cx} {K : PySem.W.Frag} {pos : Pos}
end
section
variable {X : Cx} {K : PySem.W.Frag}
end
section
variable {X : Cx} {K : PySem.W.Frag} {pos : Pos}
end
end L2
set_option maxHeartbeats 4000000
namespace L2
open PySem PySem.Spec PyProof.Rows
section
variable {X : Cx} {K : PySem.W.Frag}
def dAddS : D → D → Option D
  | .str a, .str b => if a.length + b.length ≤ sizeLine then some (.str (a ++ b)) else none
  | _, _ => none
theorem jo_addS : OpJ X K (binaryOp .Add) (fun x y H Q => ∃ i j, x = .str i ∧ y = .str j ∧ i.length + j.length ≤ sizeLine ∧ Q (.str (i ++ j)) H) dAddS := ⟨op_add_str, by
  intro O H x y a b d Q ok ra rb hg q
  cases ra with
  | str i =>
    cases rb with
    | str j =>
      have hg' : (if i.length + j.length ≤ sizeLine then some (PyData.str (i ++ j)) else none) = some d := hg
      by_cases hc : i.length + j.length ≤ sizeLine
      · rw [if_pos hc] at hg'
        cases hg'
        exact ⟨i, j, rfl, rfl, hc, q _ H (Same.refl H) (.str _)⟩
      · rw [if_neg hc] at hg'
        cases hg'
    | _ => cases hg
  | _ => cases hg⟩
def gStr : List D → Option D
  | [.int i] => if i.natAbs.log2 < 1920 then some (.str (toString i)) else none
  | _ => none
theorem jc_str : CallJ X K (.type "str") (fun xs H Q => ∃ i : Int, xs = [.int i] ∧ i.natAbs.log2 < 1920 ∧ Q (.str (toString i)) H) gStr := ⟨call_str_int, by
  intro O H vs ds d Q ok r hg q
  unfold gStr at hg
  split at hg
  · rename_i i
    by_cases hc : i.natAbs.log2 < 1920
    · rw [if_pos hc] at hg
      cases hg
      obtain ⟨v, rfl, r1⟩ := rep1 r
      cases r1
      exact ⟨i, rfl, hc, q _ H (Same.refl H) (.str _)⟩
    · rw [if_neg hc] at hg
      cases hg
  · cases hg⟩
def gLenS : List D → Option D
  | [.str z] => if z.length ≤ sizeLine then some (.int z.length) else none
  | _ => none
theorem jc_lenS : CallJ X K (.builtin "len") (fun xs H Q => ∃ z, xs = [.str z] ∧ z.length ≤ sizeLine ∧ Q (.int z.length) H) gLenS := ⟨call_len_str, by
  intro O H vs ds d Q ok r hg q
  unfold gLenS at hg
  split at hg
  · rename_i z
    by_cases hc : z.length ≤ sizeLine
    · rw [if_pos hc] at hg
      cases hg
      obtain ⟨v, rfl, r1⟩ := rep1 r
      cases r1
      exact ⟨z, rfl, hc, q _ H (Same.refl H) (.int _)⟩
    · rw [if_neg hc] at hg
      cases hg
  · cases hg⟩
def occS (neg : Bool) (i j : Str) : Bool := if neg then !(!(Builtin.Str.occurrences j i 0 j.length 1).isEmpty) else !(Builtin.Str.occurrences j i 0 j.length 1).isEmpty
def dInS (neg : Bool) : D → D → Option D
  | .str i, .str j => some (.bool (occS neg i j))
  | _, _ => none
theorem jo_inS : OpJ X K (compareOp .In) (fun x y H Q => ∃ i j, x = .str i ∧ y = .str j ∧ Q (.bl (!(Builtin.Str.occurrences j i 0 j.length 1).isEmpty)) H) (dInS false) := ⟨op_in_str, by
  intro O H x y a b d Q ok ra rb hg q
  cases ra with
  | str i =>
    cases rb with
    | str j => cases hg; exact ⟨i, j, rfl, rfl, q _ H (Same.refl H) (.bl _)⟩
    | _ => cases hg
  | _ => cases hg⟩
def rStarts : V → List V → Hp → VK → Prop := fun x vs H Q => ∃ a b, x = .str a ∧ vs = [.str b] ∧ Q (.bl (Txt.startswith a b)) H
theorem mt_starts : MtR X "str.startswith" rStarts := by
  intro pins s σ H x vs v us Q I rx rv h
  obtain ⟨a, b, rfl, rfl, q⟩ := h
  obtain ⟨t, rfl⟩ := rx
  obtain ⟨u, rfl, t', rfl⟩ := vals1 rv
  exact SC.startswith ⟨.bl _, H, I, rfl, q⟩
def dStarts : D → D → Option D
  | .str a, .str b => some (.bool (Txt.startswith a b))
  | _, _ => none
theorem je_starts {o e : Expr} {to te : TE} {fo fe : PF} {apos cpos : Pos} (hK : X.K = K) (ho : JE X K o to fo) (he : JE X K e te fe)
    (hbase : attributeBase o "startswith" X.env (eval o X.env) = eval o X.env := by rfl)
    (hfew : ((backTo cpos (starEach [e] X.env)).all (fun x => !x.1) && (backToKw cpos (keywordEach [] X.env)).all (fun x => x.1.isSome)
      && decide ([e].length + ([] : List Keyword).length + (if ([] : List Keyword).isEmpty then 0 else 1) < 30)) = true := by rfl)
    (hline : (apos.endLine == cpos.line) = true := by rfl) (hs : starEach [e] X.env = (false, eval e X.env) :: starEach [] X.env := by rfl) (hplain : (backTo cpos (starEach [] X.env)).any (·.1) = false := by rfl) :
    JE X K (.Call (.Attribute o "startswith" apos) [e] [] cpos) (tBM K "str" rStarts to (tCons te tNil)) (pOp dStarts fo fe) := ⟨by
  subst hK
  exact pe_bm PySem.F.plainAttrs_str PySem.F.slot_str_startswith PySem.F.type_str_startswith mt_starts ho.pe (pa_cons he.pe pa_nil hs) hbase hfew hline hs hplain, by
  intro O σ H ρ d Q ok er hf q
  obtain ⟨x, e1, hf⟩ := bind_some' hf
  obtain ⟨y, e2, hf⟩ := bind_some' hf
  refine ho.pu O σ H ρ x _ ok er e1 fun v H1 s1 r1 => ?_
  cases r1 with
  | str a =>
    refine ⟨rfl, ?_⟩
    refine he.pu O σ H1 ρ y _ (ok.mono s1) (er.hid s1) e2 fun u H2 s2 r2 => ?_
    cases r2 with
    | str b => cases hf; exact ⟨a, b, rfl, rfl, q _ H2 (s1.trans s2) (.bl _)⟩
    | _ => cases hf
  | _ => cases hf⟩
def gIntS : List D → Option D
  | [.str x] => if x.length ≤ 640 then (PySem.intText? x).map .int else none
  | _ => none
theorem call_int_text : CallR X (.type "int") (fun xs H Q => ∃ x n, xs = [.str x] ∧ PySem.intText? x = some n ∧ x.length ≤ 640 ∧ Q (.int n) H) := by
  intro pins s σ H xs us Q I r h
  obtain ⟨x, n, rfl, hn, hl, q⟩ := h
  obtain ⟨u, rfl, t, rfl⟩ := vals1 r
  exact PySem.W.KIN.call_text hn hl ⟨.int n, H, I.tok _, ⟨_, rfl⟩, q⟩
theorem jc_intS : CallJ X K (.type "int") (fun xs H Q => ∃ x n, xs = [.str x] ∧ PySem.intText? x = some n ∧ x.length ≤ 640 ∧ Q (.int n) H) gIntS := ⟨call_int_text, by
  intro O H vs ds d Q ok r hg q
  unfold gIntS at hg
  split at hg
  · rename_i x
    by_cases hc : x.length ≤ 640
    · rw [if_pos hc] at hg
      cases e : PySem.intText? x with
      | none => rw [e] at hg; cases hg
      | some n =>
        rw [e] at hg
        cases hg
        obtain ⟨v, rfl, r1⟩ := rep1 r
        cases r1
        exact ⟨x, n, rfl, e, hc, q _ H (Same.refl H) (.int _)⟩
    · rw [if_neg hc] at hg
      cases hg
  · cases hg⟩
theorem je_globS {x y : Str} {pos : Pos} (hg : Gl X x) (hm : ∃ t, X.mg x = some (.str y t)) (hd : (x == ("__debug__" : Str)) = false := by decide) : JE X K (.Name x pos) (tC (.str y)) (pCon (.str y)) := by
  obtain ⟨t, hm⟩ := hm
  exact ⟨pe_glob hg hm ⟨t, rfl⟩ hd, pu_con fun _ => .str y⟩
def rSlS : V → Option Int → Option Int → Hp → VK → Prop := fun x lo hi H Q => ∃ z, x = .str z ∧ z.length ≤ sizeLine ∧ Q (.str (Txt.slice z lo hi)) H
theorem sl_str : SlR X rSlS := by
  intro pins s σ H x v vl vu lo hi sl Q I rx hs pl pu h
  obtain ⟨z, rfl, hz, q⟩ := h
  obtain ⟨t, rfl⟩ := rx
  refine ⟨"str", _, PySem.F.slot_str_getitem.lookup, typeIs_str _ _ _, ?_⟩
  obtain ⟨l, hl, rfl⟩ : ∃ l : Option (Int × Tok), vl = partValue l ∧ lo = l.map (·.1) := by
    cases pl with
    | none => exact ⟨none, rfl, rfl⟩
    | int i t => exact ⟨some (i, t), rfl, rfl⟩
  obtain ⟨u, hu, rfl⟩ : ∃ u : Option (Int × Tok), vu = partValue u ∧ hi = u.map (·.1) := by
    cases pu with
    | none => exact ⟨none, rfl, rfl⟩
    | int i t => exact ⟨some (i, t), rfl, rfl⟩
  subst hl hu
  refine wpAny_getItem_str_slice (l := l) (u := u) (st := none) hs rfl ?_
  exact post_val_or_str ⟨Nat.le_trans (Txt.slice_le z _ _) hz, fun t' k => ⟨.str _, H, I.tok _, ⟨_, rfl⟩, q⟩⟩
def asS : D → Option Str
  | .str z => some z
  | _ => none
theorem asS_str (z : Str) : asS (.str z) = some z := rfl
def pSlS (f : PF) (l u : PEnv → Option (Option Int)) : PF := fun ρ => (f ρ).bind fun d => (l ρ).bind fun lo => (u ρ).bind fun hi => (asS d).bind fun z => if z.length ≤ sizeLine then some (.str (Txt.slice z lo hi)) else none
theorem je_sliceS {e : Expr} {te : TE} {f : PF} {lo hi : Option Expr} {tl th : TO} {fl fh : PEnv → Option (Option Int)} {p2 pos : Pos} (he : JE X K e te f) (hl : JO X K lo tl fl) (hu : JO X K hi th fh) :
    JE X K (.Subscript e (.Slice lo hi none p2) pos) (tSl rSlS te tl th) (pSlS f fl fh) := ⟨pe_slice sl_str he.pe hl.pe hu.pe, by
  intro O σ H ρ ds Q ok er hf q
  obtain ⟨x, e1, hf⟩ := bind_some' hf
  obtain ⟨l, e2, hf⟩ := bind_some' hf
  obtain ⟨u, e3, hf⟩ := bind_some' hf
  obtain ⟨z, e4, hf⟩ := bind_some' hf
  by_cases hc : z.length ≤ sizeLine
  case neg => rw [if_neg hc] at hf; cases hf
  rw [if_pos hc] at hf
  cases hf
  refine he.pu O σ H ρ x _ ok er e1 fun v H1 s1 r1 => ?_
  refine hl.pu O σ H1 ρ l _ (ok.mono s1) (er.hid s1) e2 fun H2 s2 => ?_
  refine hu.pu O σ H2 ρ u _ ((ok.mono s1).mono s2) (er.hid (s1.trans s2)) e3 fun H3 s3 => ?_
  cases r1 with
  | str y => cases e4; exact ⟨_, rfl, hc, q _ H3 ((s1.trans s2).trans s3) (.str _)⟩
  | _ => cases e4⟩
def ItS (x : Str) : It := ⟨fun i _ => i < x.cps.toList.length, fun i H v H' => H' = H ∧ ∃ c, x.cps.toList[i]? = some c ∧ v = .str ⟨#[c]⟩, fun i _ => x.cps.toList.length ≤ i⟩
theorem turn_str {P : Program} {w : World} {K : PySem.W.Frag} {tg : Expr} (it : Addr) (x : Str) (t : Tok) : Turn P w K tg (ItS x) [it] it (fun i h => h.IsStrIter it "str_ascii_iterator" x t i) where
  mem := by simp
  obj := fun i h st b hb => by
    have e : b = it := by simpa using hb
    subst e
    obtain ⟨o, e, c, d⟩ := st
    exact ⟨o, e, fun v z => by rw [d] at z; cases z⟩
  keep := fun i h h' st k => by
    obtain ⟨o, e, c, d⟩ := st
    exact ⟨o, k it (by simp) o e, c, d⟩
  item := by
    intro X hP hw hK hc i pins s σ H E I hf st hg
    subst hP hw hK
    obtain ⟨f0, f1, f2, f3, f4, f5⟩ := hf it (by simp)
    have hi : i < x.cps.toList.length := hg
    have hx : x.cps[i]? = some (x.cps.toList[i]) := by
      have hs : i < x.cps.size := by simpa using hi
      rw [Array.getElem?_eq_getElem hs]
      simp
    refine wpAny_pyNext_ascii_item st hx fun h' st' sb => ?_
    have I1 : Inv X pins σ H { s with heap := h', toks := s.toks + 1 } := I.turned (t' := s.toks + 1) (fun b o hb e => (sb.2 b hb).trans e) f0 f1 f3 f4 f5
    obtain ⟨o, e, c, d⟩ := id st'
    exact ⟨_, rfl, go_of (s := { s with heap := h', toks := s.toks + 1 }) e c d (by decide) ⟨.str ⟨#[x.cps.toList[i]]⟩, H, I1, ⟨_, rfl⟩, ⟨rfl, _, List.getElem?_eq_getElem hi, rfl⟩, st', fun b hb => (hf b hb).1⟩⟩
  done := by
    intro X hP hw hK hc i pins s σ H E I hf st hg
    subst hP hw hK
    obtain ⟨f0, f1, f2, f3, f4, f5⟩ := hf it (by simp)
    have hi : x.cps.toList.length ≤ i := hg
    have hx : x.cps[i]? = none := Array.getElem?_eq_none (by simpa using hi)
    exact wpAny_pyNext_ascii_end (I.ok.hd hc) st hx fun h' eb => ⟨rfl, I.turned (t' := s.toks) (fun b o hb e => eb b o hb e) f0 f1 f3 f4 f5⟩
  self := fun _ _ _ _ _ st h => wpAny_pyIter_striter_ascii st h
def iStr (tl : TE) : TI := fun σ H R => tl σ H fun x H1 => ∃ z, x = .str z ∧ z.cps.all (· < 128) = true ∧ R (ItS z) H1
theorem pi_str {tg l : Expr} {tl : TE} (hl : PE X l tl) : PI X tg l (iStr tl) := by
  intro pins s σ H R I h
  refine thn (hl pins s σ H _ I h) fun v s1 ⟨x, H1, I1, r1, q1⟩ => ?_
  obtain ⟨z, e, ha, q⟩ := q1
  subst e
  obtain ⟨t, rfl⟩ := r1
  refine wpAny_pyIter_ascii ha ?_
  refine ⟨s1.heap.objs.size, [s1.heap.objs.size], _, _, H1, rfl, I1.kept (t' := s1.toks) fun b o e => Heap.get?_push_of_some _ e, turn_str _ z t, ⟨_, Heap.get?_push_size _ rfl, rfl, rfl⟩, fun b hb => ?_, q⟩
  have e : b = s1.heap.objs.size := by simpa using hb
  subst e
  exact I1.fpOk (Nat.le_refl _) (I1.hok.fresh (Nat.le_refl _))
def signD (x : Str) : List D := x.cps.toList.map fun c => .str ⟨#[c]⟩
def pItS (f : PF) : PAs := fun ρ => (f ρ).bind fun d => (asS d).bind fun z => if z.cps.all (· < 128) = true then some (signD z) else none
theorem itok_str {G : Hp} (x : Str) : ItOk K G (ItS x) (signD x) := by
  intro Oc H' ok sm
  have hl : (signD x).length = x.cps.toList.length := by unfold signD; rw [List.length_map]
  refine ⟨fun i hi => by rw [hl] at hi; exact hi, fun i v H'' hi y => ?_, by rw [hl]; exact Nat.le_refl _⟩
  obtain ⟨rfl, c, hc, rfl⟩ := y
  refine ⟨.str ⟨#[c]⟩, ?_, Same.refl _, .str _⟩
  unfold signD
  rw [List.getElem?_map, hc]
  rfl
theorem ji_str {tg l : Expr} {tl : TE} {f : PF} (h : JE X K l tl f) : JI X K tg l (iStr tl) (pItS f) := ⟨pi_str h.pe, by
  intro O σ H ρ items R ok er hf q
  obtain ⟨x, e1, hf⟩ := bind_some' hf
  obtain ⟨z, e2, hf⟩ := bind_some' hf
  by_cases hc : z.cps.all (· < 128) = true
  case neg => rw [if_neg hc] at hf; cases hf
  rw [if_pos hc] at hf
  cases hf
  refine h.pu O σ H ρ x _ ok er e1 fun v H1 s1 r1 => ?_
  cases r1 with
  | str y => cases e2; exact ⟨_, rfl, hc, q _ H1 s1 (itok_str _)⟩
  | _ => cases e2⟩
end
end L2
set_option maxHeartbeats 4000000
namespace L2
open PySem PySem.Spec PyProof.Rows
section
variable {X : Cx} {K : PySem.W.Frag}
theorem vals_strs {ts : List Str} {us : List Value} (r : Vals (ts.map V.str) us) : ∃ l : List (Str × Tok), us = strValues l ∧ l.map (·.1) = ts := by
  induction ts generalizing us with
  | nil => cases r; exact ⟨[], rfl, rfl⟩
  | cons a ts ih =>
    cases r with
    | cons r1 r2 =>
      obtain ⟨t, rfl⟩ := r1
      obtain ⟨l, rfl, e⟩ := ih r2
      exact ⟨(a, t) :: l, rfl, by rw [List.map_cons, e]⟩
theorem strs_vals (l : List (Str × Tok)) : Vals ((l.map (·.1)).map V.str) (strValues l) := by
  induction l with
  | nil => exact .nil
  | cons a l ih => exact .cons ⟨a.2, rfl⟩ ih
def strsD : List D → Option (List Str)
  | [] => some []
  | .str i :: r => (strsD r).bind fun ns => some (i :: ns)
  | _ => none
theorem strsD_rep {H : Hp} {vs : List V} {ds : List D} {ns : List Str} (r : RepAll K H vs ds) (h : strsD ds = some ns) : vs = ns.map V.str := by
  induction ds generalizing vs ns with
  | nil => cases r; cases h; rfl
  | cons d ds ih =>
    cases r with
    | cons r t =>
      cases r with
      | str b =>
        obtain ⟨bs, e, h⟩ := bind_some' h
        cases h
        rw [ih t e]
        rfl
      | _ => cases h
theorem strsD_map (ns : List Str) : strsD (ns.map PyData.str) = some ns := by
  induction ns with
  | nil => rfl
  | cons n r ih => simp only [List.map_cons, strsD, ih]; rfl
theorem reps_strs {H : Hp} (ns : List Str) : RepAll K H (ns.map V.str) (ns.map PyData.str) := by
  induction ns with
  | nil => exact .nil
  | cons n r ih => exact .cons (.str n) ih
def rJoin (K : PySem.W.Frag) : V → List V → Hp → VK → Prop := fun x vs H Q => ∃ a p ts, x = .str a ∧ vs = [.ref p] ∧ SqL K H p (ts.map V.str) ∧ JoinOk a ts = true ∧ Q (.str (Txt.join a ts)) H
theorem mt_join : MtR X "str.join" (rJoin X.K) := by
  intro pins s σ H x vs v us Q I rx rv h
  obtain ⟨a, p, ts, rfl, rfl, hs, hj, q⟩ := h
  obtain ⟨t, rfl⟩ := rx
  obtain ⟨u, rfl, r1⟩ := vals1 rv
  cases r1
  obtain ⟨its, rv', ⟨o, n, e1, e2, e3, e4⟩, hz⟩ := I.list hs
  obtain ⟨l, rfl, hl⟩ := vals_strs rv'
  exact SC.join ⟨o, e1, e2, n, by first | exact e3 | exact e4⟩ hl hj fun t' k => ⟨.str _, H, I.tok _, ⟨_, rfl⟩, q⟩
def dJoin : D → D → Option D
  | .str a, .list ds => (strsD ds).bind fun ts => if JoinOk a ts = true then some (.str (Txt.join a ts)) else none
  | _, _ => none
theorem je_join {o e : Expr} {to te : TE} {fo fe : PF} {apos cpos : Pos} (hK : X.K = K) (ho : JE X K o to fo) (he : JE X K e te fe)
    (hbase : attributeBase o "join" X.env (eval o X.env) = eval o X.env := by rfl)
    (hfew : ((backTo cpos (starEach [e] X.env)).all (fun x => !x.1) && (backToKw cpos (keywordEach [] X.env)).all (fun x => x.1.isSome)
      && decide ([e].length + ([] : List Keyword).length + (if ([] : List Keyword).isEmpty then 0 else 1) < 30)) = true := by rfl)
    (hline : (apos.endLine == cpos.line) = true := by rfl) (hs : starEach [e] X.env = (false, eval e X.env) :: starEach [] X.env := by rfl) (hplain : (backTo cpos (starEach [] X.env)).any (·.1) = false := by rfl) :
    JE X K (.Call (.Attribute o "join" apos) [e] [] cpos) (tBM K "str" (rJoin K) to (tCons te tNil)) (pOp dJoin fo fe) := ⟨by
  subst hK
  exact pe_bm PySem.F.plainAttrs_str PySem.F.slot_str_join PySem.F.type_str_join mt_join ho.pe (pa_cons he.pe pa_nil hs) hbase hfew hline hs hplain, by
  intro O σ H ρ d Q ok er hf q
  obtain ⟨x, e1, hf⟩ := bind_some' hf
  obtain ⟨y, e2, hf⟩ := bind_some' hf
  refine ho.pu O σ H ρ x _ ok er e1 fun v H1 s1 r1 => ?_
  cases r1 with
  | str a =>
    refine ⟨rfl, ?_⟩
    refine he.pu O σ H1 ρ y _ (ok.mono s1) (er.hid s1) e2 fun u H2 s2 r2 => ?_
    cases r2 with
    | lst hq hr =>
      obtain ⟨ts, e3, hf⟩ := bind_some' hf
      by_cases hc : JoinOk a ts = true
      · rw [if_pos hc] at hf
        cases hf
        obtain rfl := strsD_rep hr e3
        exact ⟨a, _, ts, rfl, rfl, hid_le.seq hq, hc, q _ H2 (s1.trans s2) (.str _)⟩
      · rw [if_neg hc] at hf
        cases hf
    | _ => cases hf
  | _ => cases hf⟩
def SplitOk (a b : Str) : Prop := (b.length == 0) = false ∧ a.length ≤ sizeLine ∧ (Txt.split a b).length ≤ sizeLine
instance (a b : Str) : Decidable (SplitOk a b) := instDecidableAnd
def rSplit : V → List V → Hp → VK → Prop := fun x vs H Q => ∃ a b, x = .str a ∧ vs = [.str b] ∧ SplitOk a b ∧ ∀ p, H p = none → Q (.ref p) (upd H p (.lst ((Txt.split a b).map V.str)))
theorem mt_split : MtR X "str.split" rSplit := by
  intro pins s σ H x vs v us Q I rx rv h
  obtain ⟨a, b, rfl, rfl, ⟨hy, hsz, hz⟩, q⟩ := h
  obtain ⟨t, rfl⟩ := rx
  obtain ⟨u, rfl, t', rfl⟩ := vals1 rv
  have fin : ∀ (l : List (Str × Tok)) (k : Nat), l.map (·.1) = Txt.split a b → EP X pins σ Q (.ref s.heap.objs.size) { s with toks := k, heap := s.heap.push { cls := .type "list", data := .seq (strValues l).toArray } } := by
    intro l k e
    have hv := strs_vals l
    rw [e] at hv
    exact ⟨.ref _, _, I.lnew (t' := k) hv (by rw [List.length_map]; exact hz), rfl, q _ I.fresh⟩
  cases h1 : (decide (a.length < b.length) || decide (Builtin.Str.strKind a < Builtin.Str.strKind b))
  · cases hf : (Builtin.Str.occurrences a b 0 a.length (a.length + 1)).isEmpty
    · have hsp : Txt.split a b = Builtin.Str.partsBetween a (Builtin.Str.occurrences a b 0 a.length (a.length + 1)) b.length := (if_neg (ne_true_of_eq_false h1)).trans (if_neg (ne_true_of_eq_false hf))
      refine call_meets F.slot_str_split (typeIs_str _ _ _) F.entry_str_split (F.args_str_split_2 _ _) (meets_str_split_sep a b t t' h1 hy hf hsz (by rw [← hsp]; exact hz)) ?_
      show wants _ _ _ { s with toks := _, heap := s.heap.push { cls := .type "list", data := .seq (strsFrom s.toks (Builtin.Str.partsBetween a (Builtin.Str.occurrences a b 0 a.length (a.length + 1)) b.length)).toArray } }
      rw [strsFrom_eq]
      exact fin (numbered s.toks _) _ ((numbered_texts _ _).trans hsp.symm)
    · exact call_meets F.slot_str_split (typeIs_str _ _ _) F.entry_str_split (F.args_str_split_2 _ _) (meets_str_split_not_found a b t t' h1 hy hf)
        (fin [(a, t)] s.toks ((if_neg (ne_true_of_eq_false h1)).trans (if_pos hf)).symm)
  · exact call_meets F.slot_str_split (typeIs_str _ _ _) F.entry_str_split (F.args_str_split_2 _ _) (meets_str_split_cannot_occur a b t t' h1)
      (fin [(a, t)] s.toks (if_pos h1).symm)
def dSplit : D → D → Option (List D)
  | .str a, .str b => if SplitOk a b then some ((Txt.split a b).map PyData.str) else none
  | _, _ => none
def pSplit (fo fe : PF) : PAs := fun ρ => (fo ρ).bind fun x => (fe ρ).bind fun y => dSplit x y
theorem jl_split {o e : Expr} {to te : TE} {fo fe : PF} {apos cpos : Pos} (hK : X.K = K) (ho : JE X K o to fo) (he : JE X K e te fe)
    (hbase : attributeBase o "split" X.env (eval o X.env) = eval o X.env := by rfl)
    (hfew : ((backTo cpos (starEach [e] X.env)).all (fun x => !x.1) && (backToKw cpos (keywordEach [] X.env)).all (fun x => x.1.isSome)
      && decide ([e].length + ([] : List Keyword).length + (if ([] : List Keyword).isEmpty then 0 else 1) < 30)) = true := by rfl)
    (hline : (apos.endLine == cpos.line) = true := by rfl) (hs : starEach [e] X.env = (false, eval e X.env) :: starEach [] X.env := by rfl) (hplain : (backTo cpos (starEach [] X.env)).any (·.1) = false := by rfl) :
    JL X K (.Call (.Attribute o "split" apos) [e] [] cpos) (tBM K "str" rSplit to (tCons te tNil)) (pSplit fo fe) := ⟨by
  subst hK
  exact pe_bm PySem.F.plainAttrs_str PySem.F.slot_str_split PySem.F.type_str_split mt_split ho.pe (pa_cons he.pe pa_nil hs) hbase hfew hline hs hplain, by
  intro O σ H ρ ds Q ok er hf q
  obtain ⟨x, e1, hf⟩ := bind_some' hf
  obtain ⟨y, e2, hf⟩ := bind_some' hf
  refine ho.pu O σ H ρ x _ ok er e1 fun v H1 s1 r1 => ?_
  cases r1 with
  | str a =>
    refine ⟨rfl, ?_⟩
    refine he.pu O σ H1 ρ y _ (ok.mono s1) (er.hid s1) e2 fun u H2 s2 r2 => ?_
    cases r2 with
    | str b =>
      have hf' : (if SplitOk a b then some ((Txt.split a b).map PyData.str) else none) = some ds := hf
      by_cases hc : SplitOk a b
      · rw [if_pos hc] at hf'
        cases hf'
        exact ⟨a, b, rfl, rfl, hc, fun p hp => q p _ _ ((s1.trans s2).trans (Same.new hp)) ((s1.trans s2).free hp) upd_same (reps_strs _)⟩
      · rw [if_neg hc] at hf'
        cases hf'
    | _ => cases hf
  | _ => cases hf⟩
end
end L2
set_option maxHeartbeats 4000000
namespace L2
open PySem PySem.Spec PyProof.Rows
section
variable {X : Cx} {K : PySem.W.Frag}
def rFind : V → List V → Hp → VK → Prop := fun x vs H Q => ∃ a b, x = .str a ∧ vs = [.str b] ∧ Q (.int (Txt.find a b)) H
theorem mt_find : MtR X "str.find" rFind := by
  intro pins s σ H x vs v us Q I rx rv h
  obtain ⟨a, b, rfl, rfl, q⟩ := h
  obtain ⟨t, rfl⟩ := rx
  obtain ⟨u, rfl, t', rfl⟩ := vals1 rv
  exact SC.find ⟨.int _, H, I.tok _, ⟨_, rfl⟩, q⟩
def dFind : D → D → Option D
  | .str a, .str b => some (.int (Txt.find a b))
  | _, _ => none
theorem je_find {o e : Expr} {to te : TE} {fo fe : PF} {apos cpos : Pos} (hK : X.K = K) (ho : JE X K o to fo) (he : JE X K e te fe)
    (hbase : attributeBase o "find" X.env (eval o X.env) = eval o X.env := by rfl)
    (hfew : ((backTo cpos (starEach [e] X.env)).all (fun x => !x.1) && (backToKw cpos (keywordEach [] X.env)).all (fun x => x.1.isSome)
      && decide ([e].length + ([] : List Keyword).length + (if ([] : List Keyword).isEmpty then 0 else 1) < 30)) = true := by rfl)
    (hline : (apos.endLine == cpos.line) = true := by rfl) (hs : starEach [e] X.env = (false, eval e X.env) :: starEach [] X.env := by rfl) (hplain : (backTo cpos (starEach [] X.env)).any (·.1) = false := by rfl) :
    JE X K (.Call (.Attribute o "find" apos) [e] [] cpos) (tBM K "str" rFind to (tCons te tNil)) (pOp dFind fo fe) := ⟨by
  subst hK
  exact pe_bm PySem.F.plainAttrs_str PySem.F.slot_str_find PySem.F.type_str_find mt_find ho.pe (pa_cons he.pe pa_nil hs) hbase hfew hline hs hplain, by
  intro O σ H ρ d Q ok er hf q
  obtain ⟨x, e1, hf⟩ := bind_some' hf
  obtain ⟨y, e2, hf⟩ := bind_some' hf
  refine ho.pu O σ H ρ x _ ok er e1 fun v H1 s1 r1 => ?_
  cases r1 with
  | str a =>
    refine ⟨rfl, ?_⟩
    refine he.pu O σ H1 ρ y _ (ok.mono s1) (er.hid s1) e2 fun u H2 s2 r2 => ?_
    cases r2 with
    | str b => cases hf; exact ⟨a, b, rfl, rfl, q _ H2 (s1.trans s2) (.int _)⟩
    | _ => cases hf
  | _ => cases hf⟩
def TimesOk (x : Str) (n : Int) : Prop := 1 < n ∧ n < 1000000 ∧ x.length ≠ 0 ∧ x.length * n.toNat ≤ 1000000
instance (x : Str) (n : Int) : Decidable (TimesOk x n) := instDecidableAnd
end
end L2
set_option maxHeartbeats 4000000
set_option hygiene false
local macro_rules | `(tactic| walk_at "pu") => `(tactic| simp only [L2.pSq, L2.pItS, L2.pSlS, L2.asS_str, L2.pSetII, L2.vN, L2.pRetON, L2.pRetNN, L2.pCallN, L2.pOfN, L2.pConsN, L2.pNilN, L2.pLstN, L2.pClearN, L2.pClearNI, L2.pForClear, L2.view_on, L2.mask_on, L2.asOn_on, L2.pSet, L2.vS, L2.vF, L2.vL, L2.vLF, L2.vLS, L2.vSL, L2.pOp, L2.pUn, L2.pVar, L2.pCon, L2.pTest, L2.pNotT, L2.pAndT, L2.pOrT, L2.pTrue, L2.pAnd, L2.pOr, L2.pNot, L2.pIf, L2.pChain, L2.pNil, L2.pCons, L2.pTup, L2.pLst, L2.pOfL, L2.pCall, L2.pCallL, L2.pIsi, L2.pRet, L2.pRetL, L2.pRetO, L2.pRetN, L2.pIfS, L2.pNx, L2.pDrop, L2.pApp, L2.pSetI, L2.pClear, L2.pSl, L2.pNoPart, L2.pPart, L2.pCat, L2.pItL, L2.pItT, L2.pAsg, L2.pRel, L2.full, L2.masked, L2.startP_eq,
  List.map_cons, List.map_nil, List.cons_append, List.nil_append, List.length_cons, List.length_nil, List.length_map, Nat.reduceAdd, Nat.reduceSub, Nat.zero_add, List.replicate_succ, List.replicate_zero, List.set_cons_succ, List.set_cons_zero, L2.getI0, L2.getIS, List.getElem?_cons_zero, List.getElem?_cons_succ, Option.join_some,
  L2.view_sh, L2.view_ow, L2.view_no, L2.mask_sh, L2.mask_ow, L2.mask_no, L2.bnd_some, L2.bnd_none, Option.map_some, L2.asB_bool, L2.asI_int, L2.asL_list, L2.asT_tup, L2.asSh_sh, L2.asOw_ow, L2.dAdd_int, L2.dSub_int, L2.dMul_int, L2.dMod_int, L2.dDiv_int, L2.dPow_ten, L2.tenP_pos, L2.dLt_int, L2.dLe_int, L2.dGt_int, L2.dGe_int, L2.dNeg_int, L2.dEq_int, L2.dNe_int, L2.dIx_list, L2.dIx_tup, L2.atI_zero, L2.atI_one, L2.atI_two,
  L2.gLen_list, L2.gLen_tup, L2.gList_list, L2.gList_tup, L2.gEnum_list, L2.gZip_list, L2.gMax_int, L2.gMin_int, L2.gInt_bool, L2.gInt_int, L2.flatD_int, L2.flatD_bool, L2.flatD_none, L2.flatD_tup, L2.flatAll_nil, L2.flatAll_cons, Bool.and_self, Bool.true_and, L2.ite_true', L2.ite_false', if_true, if_false, Bool.not_true, Bool.not_false, Bool.false_eq_true, L2.small_def, L2.fits_def, decide_true, decide_false, Bool.or_true, Bool.true_or, Bool.or_self, Bool.or_false, Bool.false_or, Bool.and_true, Bool.and_false, Bool.false_and, and_self, and_true, true_and, not_true_eq_false, not_false_eq_true, true_or, or_true, L2.dIsN, L2.dNotN, L2.isNon_none, L2.tyD_list, L2.tyD_tup, L2.tyD_bool, L2.tyD_int, L2.tyD_none, L2.subT_refl, L2.subT_ib, L2.subT_bi, eq_self, L2.dEq_ints_nil, L2.dEq_L_nil, L2.isNon_int, L2.isNon_list, L2.isNon_tup, L2.dEq_T, L2.dNe_T, L2.dNe_N, L2.dEq_N, L2.dEq_L, L2.dNe_L, L2.flat_T, L2.flat_Ts, Int.reduceLT, Int.reduceLE, Nat.reduceLT, Nat.reduceLeDiff, Int.reduceNeg, Int.reduceAdd, Int.reduceSub, Int.reduceMul, Nat.lt_irrefl, *])
set_option hygiene true
namespace LL
open PySem L2
def b__law_spread : PSt := (pSq (pSet 1 (vS (pOp dMod (pOp dMul (pOp dAdd (pOp dMod (pVar 0) (pCon (.int 2147483629))) (pCon (.int 1))) (pCon (.int 1103515245))) (pCon (.int 2147483629)))))
    (pRet (pOp dAdd (pOp dMod (pOp dMul (pVar 1) (pVar 1)) (pCon (.int 2147483587))) (pOp dMul (pOp dMod (pVar 0) (pOp dPow (pCon (.int 10)) (pCon (.int 50)))) (pCon (.int 2147483587))))))
def m__law_spread : List D → Option D := runF 1 2 b__law_spread
def b__law_mixed : PSt := (pSq (pSet 2 (vS (pOp dMod (pOp dMul (pOp dAdd (pOp dMod (pVar 0) (pCon (.int 2147483629))) (pCon (.int 1))) (pCon (.int 1103515245))) (pCon (.int 2147483629)))))
    (pSq (pSet 2 (vS (pOp dMod (pOp dAdd (pOp dAdd (pOp dMul (pVar 2) (pVar 2)) (pOp dMul (pVar 1) (pCon (.int 69621)))) (pCon (.int 12345))) (pCon (.int 2147483587)))))
    (pRet (pOp dMod (pOp dMul (pVar 2) (pVar 2)) (pCon (.int 2147483629))))))
def m__law_mixed : List D → Option D := runF 2 3 b__law_mixed
def tw (h : Int) : Int := 2 ^ h.toNat
structure Bd (t w st : Int) : Prop where
  t0 : 0 ≤ t
  t4 : t ≤ 4
  s1 : 1 ≤ st
  lo : st * (t + 2) ≤ w
  hi : w ≤ 20
def keysOf (ts : List Thing) : List Int := ts.filterMap fun t => t.map (·.1)
def Rises (ts : List Thing) : Prop := (keysOf ts).Pairwise (· < ·)
theorem at_mem {α : Type} (xs : List α) {i : Int} (h0 : 0 ≤ i) (h1 : i < xs.length) : ∃ v, v ∈ xs ∧ atI xs i = some v := by
  obtain ⟨j, rfl⟩ : ∃ j : Nat, i = (j : Int) := ⟨i.toNat, by omega⟩
  have hj : j < xs.length := by omega
  exact ⟨xs[j], List.getElem_mem hj, by rw [atI_ofNat]; simp [hj]⟩
theorem m_pos (a : Int) {b : Int} (h : 0 < b) : 0 ≤ a % b ∧ a % b < b := ⟨Int.emod_nonneg _ (Int.ne_of_gt h), Int.emod_lt_of_pos _ h⟩
theorem spread_ex (c : Int) : ∃ z, m__law_spread [.int c] = some (.int z) ∧ 0 ≤ z := by
  have h1 := m_pos ((c % 2147483629 + 1) * 1103515245) (b := 2147483629) (by decide)
  have s1 : -18446744073709551616 < (c % 2147483629 + 1) * 1103515245 % 2147483629 ∧ (c % 2147483629 + 1) * 1103515245 % 2147483629 < 18446744073709551616 := ⟨by omega, by omega⟩
  refine ⟨(c % 2147483629 + 1) * 1103515245 % 2147483629 * ((c % 2147483629 + 1) * 1103515245 % 2147483629) % 2147483587 + c % tenP 50 * 2147483587, runF_of (o := .rt (.int _)) rfl ?_ rfl, ?_⟩
  · unfold b__law_spread
    walk_at "pu"
  · have := m_pos ((c % 2147483629 + 1) * 1103515245 % 2147483629 * ((c % 2147483629 + 1) * 1103515245 % 2147483629)) (b := 2147483587) (by decide)
    have := m_pos c (b := tenP 50) (tenP_pos _)
    omega
theorem mixed_ex (c k : Int) : ∃ z, m__law_mixed [.int c, .int k] = some (.int z) ∧ 0 ≤ z := by
  have h1 := m_pos ((c % 2147483629 + 1) * 1103515245) (b := 2147483629) (by decide)
  have s1 : -18446744073709551616 < (c % 2147483629 + 1) * 1103515245 % 2147483629 ∧ (c % 2147483629 + 1) * 1103515245 % 2147483629 < 18446744073709551616 := ⟨by omega, by omega⟩
  generalize hn : (c % 2147483629 + 1) * 1103515245 % 2147483629 = n at *
  have h2 := m_pos (n * n + k * 69621 + 12345) (b := 2147483587) (by decide)
  have s2 : -18446744073709551616 < (n * n + k * 69621 + 12345) % 2147483587 ∧ (n * n + k * 69621 + 12345) % 2147483587 < 18446744073709551616 := ⟨by omega, by omega⟩
  refine ⟨(n * n + k * 69621 + 12345) % 2147483587 * ((n * n + k * 69621 + 12345) % 2147483587) % 2147483629, runF_of (o := .rt (.int _)) rfl ?_ rfl, (m_pos _ (by decide)).1⟩
  unfold b__law_mixed
  walk_at "pu"
end LL
set_option maxHeartbeats 4000000
namespace LL
open PySem L2
def things (ts : List Thing) : List (Int × Int) := ts.filterMap id
theorem unB_map (bs : List Bool) : unB (bs.map PyData.bool) = some bs := by
  induction bs with
  | nil => rfl
  | cons b r ih => simp only [List.map_cons, unB, ih, bnd_some]
instance (ts : List Thing) : Decidable (Rises ts) := inferInstanceAs (Decidable ((keysOf ts).Pairwise (· < ·)))
theorem cutD_map {α : Type} (f : α → D) (xs : List α) (lo hi : Option Int) : ∃ ys : List α, cutD (xs.map f) lo hi = ys.map f ∧ ys.length ≤ xs.length := by
  refine ⟨(xs.drop (HT.sIx xs.length 0 lo)).take (HT.sIx xs.length xs.length hi - HT.sIx xs.length 0 lo), ?_, ?_⟩
  · unfold cutD
    rw [List.length_map, List.map_take, List.map_drop]
  · rw [List.length_take, List.length_drop]
    omega
end LL
set_option maxHeartbeats 4000000
namespace LL
open PySem L2
abbrev Pr := Int × Int
abbrev PP := List (Nat × Pr)
def posT : Nat → List Thing → PP
  | _, [] => []
  | k, none :: r => posT (k + 1) r
  | k, some x :: r => (k, x) :: posT (k + 1) r
structure Mv (s : List Thing) (c a : Nat) (x : Pr) (L R : PP) : Prop where
  eq : posT 0 s = L ++ (c, x) :: R
  ne : c ≠ a
  lt : a < s.length
  lo : ∀ p ∈ L, p.1 < c ∧ p.1 < a
  hi : ∀ p ∈ R, c < p.1 ∧ a < p.1
abbrev Tr := Nat × Nat × Pr
def mvW (s : List Thing) (t : Tr) : List Thing := (s.set t.2.1 (some t.2.2)).set t.1 none
inductive Run (P : List Thing → Tr → Prop) : List Thing → List Tr → List Thing → Prop
  | nil (s : List Thing) : Run P s [] s
  | cons {s s' : List Thing} {t : Tr} {l : List Tr} : P s t → Run P (mvW s t) l s' → Run P s (t :: l) s'
end LL
set_option maxHeartbeats 4000000
namespace LL
open PySem L2
theorem for_pre {α : Type} {bs : D → SEnv → Option SEnv} {F : PSt} (enc : α → D) (R : List α → SEnv → Prop) (xs : List α) (H : ∀ pre x post ρ, xs = pre ++ x :: post → R pre ρ → ∃ ρ1 ρ2, bs (enc x) ρ = some ρ1 ∧ F ρ1 = some (.nx ρ2) ∧ R (pre ++ [x]) ρ2) (ρ : SEnv) (h : R [] ρ) :
    ∃ ρ', forP bs F (xs.map enc) ρ = some (.nx ρ') ∧ R xs ρ' := by
  have key : ∀ (post pre : List α) (ρ : SEnv), xs = pre ++ post → R pre ρ → ∃ ρ', forP bs F (post.map enc) ρ = some (.nx ρ') ∧ R xs ρ' := by
    intro post
    induction post with
    | nil => intro pre ρ e r; rw [List.append_nil] at e; subst e; exact ⟨ρ, rfl, r⟩
    | cons x post ih =>
      intro pre ρ e r
      obtain ⟨ρ1, ρ2, h1, h2, r2⟩ := H pre x post ρ e r
      obtain ⟨ρ', h3, r3⟩ := ih (pre ++ [x]) ρ2 (by rw [e]; simp) r2
      exact ⟨ρ', by rw [List.map_cons, forP_nx h1 h2]; exact h3, r3⟩
  exact key xs [] ρ rfl h
def ddF (acc : List Pr) (x : Pr) : List Pr := if acc.getLast? = some x then acc else acc ++ [x]
def dd (X : List Pr) : List Pr := X.foldl ddF []
def RiseP (X : List Pr) : Prop := (X.map (·.1)).Pairwise (· < ·)
instance (X : List Pr) : Decidable (RiseP X) := inferInstanceAs (Decidable ((X.map (·.1)).Pairwise (· < ·)))
end LL
set_option maxHeartbeats 4000000
namespace LL
open PySem L2
structure EncOk {α : Type} [DecidableEq α] (e : α → D) (n : Nat) : Prop where
  lay : ∀ a, (e a).canLay0 = true
  dep : ∀ a, (e a).depth ≤ n
  eqv : ∀ a b, PyData.eqv (e a) (e b) = decide (a = b)
section
variable {α β : Type} [DecidableEq α] [DecidableEq β] {e : α → D} {f : β → D} {n m : Nat}
theorem EncOk.shaped (h : EncOk e n) (hn : n ≤ 64) (a : α) : SeqAt.shaped (e a) = true := by
  unfold SeqAt.shaped
  rw [h.lay a, Bool.true_and]
  exact decide_eq_true (Nat.le_trans (h.dep a) hn)
theorem EncOk.dEq (h : EncOk e n) (hn : n ≤ 64) (a b : α) : L2.dEq (e a) (e b) = some (.bool (decide (a = b))) := by
  unfold L2.dEq
  rw [if_pos ⟨h.shaped hn a, h.shaped hn b⟩, h.eqv]
theorem EncOk.all (h : EncOk e n) : ∀ xs : List α, PyData.canLayAll0 (xs.map e) = true ∧ PyData.depthAll (xs.map e) ≤ n
  | [] => by simp [PyData.canLayAll0, PyData.depthAll]
  | x :: r => by
    have h2 := EncOk.all h r
    simp only [List.map_cons, PyData.canLayAll0, PyData.depthAll, h.lay x, h2.1, Bool.and_self, true_and]
    have := h.dep x
    have := h2.2
    omega
theorem EncOk.eqvAll (h : EncOk e n) : ∀ xs ys : List α, PyData.eqvAll (xs.map e) (ys.map e) = decide (xs = ys)
  | [], [] => by simp [PyData.eqvAll]
  | [], _ :: _ => by simp [PyData.eqvAll]
  | _ :: _, [] => by simp [PyData.eqvAll]
  | x :: r, y :: q => by
    simp only [List.map_cons, PyData.eqvAll, h.eqv, EncOk.eqvAll h r q]
    by_cases h1 : x = y <;> by_cases h2 : r = q <;> simp [h1, h2]
theorem EncOk.list (h : EncOk e n) : EncOk (fun xs : List α => PyData.list (xs.map e)) (n + 1) :=
  ⟨fun xs => by simp only [PyData.canLay0]; exact (h.all xs).1, fun xs => by simp only [PyData.depth]; have := (h.all xs).2; omega, fun xs ys => by simp only [PyData.eqv]; exact h.eqvAll xs ys⟩
end
theorem enc_T : EncOk encD 1 := ⟨fun t => (canLay_T t).1, fun t => (canLay_T t).2, eqv_T⟩
structure MvOk (s : List Thing) (t : Tr) : Prop where
  free : s[t.2.1]? = some none
  lt : t.2.1 < s.length
  here : s[t.1]? = some (some t.2.2)
  mid : dd (things (s.set t.2.1 (some t.2.2))) = things s
  few : (things (s.set t.2.1 (some t.2.2))).length = (things s).length + 1
  fin : things (mvW s t) = things s
end LL
set_option maxHeartbeats 4000000
namespace LKa
open PySem L2
def b__law_key : PSt := (pSq (pSet 2 (vSL (pComp (pItL (pVar 0)) (bd1 0) (pTest (pOp dNe (pVar 0) (pTup pNil))) (pVar 0) 1 [])))
    (pSq (pSet 3 (vS (pOp dMod (pVar 1) (pOp dPow (pCon (.int 10)) (pCon (.int 58))))))
    (pSq (pIfS (pOrT (pTest (pOp dEq (pVar 2) (pOfL (pLst pNil)))) (pTest (pOp dEq (pOp dMod (pVar 1) (pCon (.int 5))) (pCon (.int 4)))))
      (pRet (pOp dIx (pOfL (pLst (pCons (pVar 3) (pCons (pUn dNeg (pVar 3)) pNil)))) (pOp dMod (pOp dDiv (pVar 1) (pCon (.int 5))) (pCon (.int 2))))) pNx)
    (pRet (pOp dAdd (pOp dIx (pOp dIx (pVar 2) (pOp dMod (pOp dDiv (pVar 1) (pCon (.int 5))) (pCall gLen (pCons (pVar 2) pNil)))) (pCon (.int 0))) (pOp dIx (pOfL (pLst (pCons (pUn dNeg (pCon (.int 1))) (pCons (pCon (.int 0)) (pCons (pCon (.int 1)) (pCons (pCon (.int 2)) pNil)))))) (pOp dMod (pOp dDiv (pVar 1) (pCon (.int 500))) (pCon (.int 4)))))))))
def m__law_key : List D → Option D := runF 2 4 b__law_key
end LKa
namespace LKb
open PySem L2
def b__law_key : PSt := (pSq (pSet 3 (vS (pOp dMod (pVar 1) (pOp dPow (pCon (.int 10)) (pCon (.int 50))))))
    (pSq (pIfS (pTest (pOp dEq (pVar 0) (pOfL (pLst pNil))))
      (pRet (pVar 3)) pNx)
    (pSq (pSet 4 (vS (pOp dMod (pOp dIx (pOfL (pLst (pCons (pOp dDiv (pVar 1) (pCon (.int 7))) (pCons (pOp dDiv (pCall gLen (pCons (pVar 0) pNil)) (pCon (.int 2))) pNil)))) (pCall gInt (pCons (pVar 2) pNil))) (pOp dAdd (pCall gLen (pCons (pVar 0) pNil)) (pCon (.int 1))))))
    (pSq (pSet 5 (vS (pOp dIx (pOfL (pLst (pCons (pCon (.int 1000)) (pCons (pOp dPow (pCon (.int 10)) (pCon (.int 48))) pNil)))) (pCall gInt (pCons (pOr (pVar 2) (pOp dEq (pOp dMod (pOp dDiv (pVar 1) (pCon (.int 7))) (pCon (.int 2))) (pCon (.int 1)))) pNil)))))
    (pSq (pIfS (pTest (pOp dEq (pVar 4) (pCon (.int 0))))
      (pRet (pOp dSub (pOp dSub (pOp dIx (pVar 0) (pCon (.int 0))) (pCon (.int 1))) (pOp dMod (pVar 3) (pVar 5)))) pNx)
    (pSq (pIfS (pTest (pOp dEq (pVar 4) (pCall gLen (pCons (pVar 0) pNil))))
      (pRet (pOp dAdd (pOp dAdd (pOp dIx (pVar 0) (pUn dNeg (pCon (.int 1)))) (pCon (.int 1))) (pOp dMod (pVar 3) (pVar 5)))) pNx)
    (pRet (pOp dAdd (pOp dAdd (pOp dIx (pVar 0) (pOp dSub (pVar 4) (pCon (.int 1)))) (pCon (.int 1))) (pOp dMod (pVar 3) (pCall gMax (pCons (pCon (.int 1)) (pCons (pOp dSub (pOp dSub (pOp dIx (pVar 0) (pVar 4)) (pOp dIx (pVar 0) (pOp dSub (pVar 4) (pCon (.int 1))))) (pCon (.int 1))) pNil))))))))))))
def m__law_key : List D → Option D := runF 3 6 b__law_key
end LKb
namespace LL
open PySem L2
def cnt (ts : List Thing) (a b : Nat) : Nat := (things ((ts.drop a).take (b - a))).length
end LL
namespace LKa
open PySem L2 LL
end LKa
namespace LKb
open PySem L2 LL
end LKb
namespace LL
open PySem L2
def beg (w s h : Nat) : Nat := s / (2 ^ h * w) * (2 ^ h * w)
def roomy (ts : List Thing) (w st s h : Nat) : Prop := (cnt ts (beg w s h) (beg w s h + 2 ^ h * w) : Int) < 2 ^ h * ((w : Int) - h * st)
end LL
namespace LL
open PySem L2
instance (ts : List Thing) (w st s h : Nat) : Decidable (roomy ts w st s h) := Int.decLt _ _
end LL
namespace LL
def cl (p n a : Nat) : Nat := (a * n + p - 1) / p
end LL
namespace LL
open PySem L2
theorem spreads_comp (cs : List Int) (hl : cs.length < 16777216) {fi : PAs} {ρ : PEnv} (h : fi ρ = some (cs.map PyData.int)) : ∃ zs : List Int, pComp fi (bd1 0) pTrue (pCall m__law_spread (pCons (pVar 0) pNil)) 1 [] ρ = some (zs.map PyData.int) ∧ zs.length = cs.length ∧ ∀ z ∈ zs, 0 ≤ z := by
  refine ⟨cs.map fun c => (spread_ex c).choose, ?_, List.length_map _, ?_⟩
  · rw [comp_eq h (by simpa using hl), compP_mapT PyData.int (fun c => .int (spread_ex c).choose), List.map_map]
    · rfl
    · intro c _
      exact ⟨_, rfl, (spread_ex c).choose_spec.1⟩
  · intro z hz
    obtain ⟨c, _, rfl⟩ := List.mem_map.mp hz
    exact (spread_ex c).choose_spec.2
theorem cut_ints (ns : List Int) (lo hi : Option Int) : ∃ cs : List Int, cutD (ns.map PyData.int) lo hi = cs.map PyData.int ∧ cs.length ≤ ns.length := cutD_map PyData.int ns lo hi
end LL
namespace LL
open PySem L2
end LL
set_option maxHeartbeats 4000000
namespace LL
open PySem L2
end LL
set_option maxHeartbeats 4000000
namespace LL
open PySem L2
end LL
namespace LL
open PySem L2
end LL
set_option maxHeartbeats 4000000
namespace LL
open PySem L2
end LL
set_option maxHeartbeats 4000000
namespace L2
open PySem PySem.Spec PyProof.Rows
def vmro : List Value := [.type "ValueError", .type "Exception", .type "BaseException", .type "object"]
theorem cls_obj {K : PySem.W.Frag} {h : Heap} {C : Addr} {bmB : List Value} {newId : String} (X : K.In h) (q : PySem.W.excIn K C bmB newId = true) : ∃ bm N nm qn bs hdct sn sub ab col dd k0 k1 k2 k3 k5 mN,
    h.get? C = some (excClassObj nm qn C N bs bm hdct sn sub ab col dd k0 k1 k2 k3 k5 newId) ∧ h.Ns N mN ∧ mN "__init__" = none ∧ OwnTail h bmB bm := by
  unfold PySem.W.excIn at q
  split at q
  · rename_i dd cd sl ho
    split at q
    · rename_i C' bm k0 k1 k2 k3 n k5 hm hs
      simp only [Bool.and_eq_true, beq_iff_eq, Bool.not_eq_true'] at q
      obtain ⟨⟨⟨⟨⟨rfl, rfl⟩, hdel⟩, ht⟩, hok⟩, hni⟩ := q
      obtain ⟨nm, bs, mro, ns, qn, hd, sn, sub, ab, col, del⟩ := cd
      dsimp only at hm hdel hok hni
      subst hm hdel
      have hsl : sl = #[k0, k1, k2, k3, some (.builtin n), k5] := by
        obtain ⟨l⟩ := sl
        simp only at hs
        rw [hs]
      subst hsl
      exact ⟨bm, ns, nm, qn, bs, hd, sn, sub, ab, col, dd, k0, k1, k2, k3, k5, _, X _ _ ho, .of_isNs (PySem.W.isNs_of_in X hok), PySem.W.nsMap_none_of_in X hok hni, PySem.W.tail_of_in X ht⟩
    · cases q
  · cases q
section
variable {X : Cx} {x : Str} {C : Addr} {e₀ : Expr} {rest : List Expr} {t : TA} {np cpos pos : Pos}
theorem ps_raise {XR : Hp → Prop} (hh : X.A.handled = none) (hg : Gl X x) (hm : X.mg x = some (.ref C)) (hq : PySem.W.excIn X.K C vmro "ValueError.__new__" = true) (ha : PA X (e₀ :: rest) t)
    (hx : ∀ (pins : List (Addr × Obj)) (σ : St) (H : Hp) (s : Shared) (h' : Heap) (e : Addr) (vs : List Value), Inv X pins σ H s → Heap.MadeExcOf s.heap h' e (.ref C) vs → XR H → X.xe (.ref e) { s with heap := h' })
    (he : starEach (e₀ :: rest) X.env = (false, eval e₀ X.env) :: starEach rest X.env := by rfl) (hplain : (backTo cpos (starEach rest X.env)).any (·.1) = false := by rfl) (hd : (x == ("__debug__" : Str)) = false := by decide) :
    PS X (.Raise (some (.Call (.Name x np) (e₀ :: rest) [] cpos)) none pos) (fun _ σ H => t σ H fun vs H1 => vs.length ≤ sizeLine ∧ XR H1) := by
  intro pins s σ H D I h
  obtain ⟨tl, N, nm, q, bs, hdct, sn, sub, ab, col, dd, k0, k1, k2, k3, k5, mN, hC, hN, hni, T⟩ := cls_obj I.mod.kin hq
  refine wpAny_Raise_call_subU (C := C) (nm := nm) (q := q) (N := N) (bs := bs) (bm := tl) (hdct := hdct) (sn := sn) (sub := sub) (ab := ab) (col := col) (dd := dd) (k0 := k0) (k1 := k1) (k2 := k2) (k3 := k3) (k5 := k5)
    PySem.F.excBase_ValueError (by decide) PySem.F.excBase_ValueError (mN := mN) (T.hasType PySem.F.excBase_ValueError.hasBase) hh (by rw [he]; show (false || (backTo cpos (starEach rest X.env)).any (·.1)) = false; rw [hplain]; rfl) hni (ld_glob I hg hm ⟨rfl, ?_⟩ hd)
  have ha' := ha cpos pins s σ H _ I h
  rw [he] at ha' ⊢
  refine Calls.evalArgs_plain (wpAny_mono ha' (fun us s2 h2 => ?_) fun _ _ y => y)
  obtain ⟨vs, H1, I1, r1, hl, xr⟩ := h2
  have kp : ∀ b o, X.base.get? b = some o → s2.heap.get? b = some o := fun b o e => (I1.bs b o e).1
  exact ⟨rfl, by rw [← r1.length]; exact hl, kp _ _ hC, hN.keeps kp, T.keeps kp, fun h' e hmade => hx pins σ H1 s2 h' e us I1 hmade xr⟩
end
theorem ObjOk.some {P : Program} {w : World} {H : Hp} {h : Heap} {a : Addr} {o : HO} (x : ObjOk P w H h a o) : ∃ u, h.get? a = some u := by
  induction o with
  | lst xs => obtain ⟨_, _, _, _, e⟩ := x; exact ⟨_, e⟩
  | tup xs => obtain ⟨_, _, _, ob, e, _⟩ := x; exact ⟨_, e⟩
  | dK kvs => obtain ⟨_, _, _, _, ob, _, _, e, _⟩ := x; exact ⟨_, e⟩
  | dT kvs => obtain ⟨_, _, _, _, ob, _, _, e, _⟩ := x; exact ⟨_, e⟩
  | set S n => obtain ⟨ob, _, _, _, e, _⟩ := x; exact ⟨_, e⟩
  | ins C dx fs => obtain ⟨_, _, _, e, _⟩ := x; exact ⟨_, e⟩
  | own y => obtain ⟨ob, e⟩ := x; exact ⟨_, e⟩
  | xd fs => obtain ⟨_, ⟨od, _, _, e, _⟩, _⟩ := x; exact ⟨_, e⟩
  | rng lo hi => obtain ⟨_, _, _, e⟩ := x; exact ⟨_, e⟩
  | frz ob u ih => obtain ⟨e, q⟩ := x; exact ⟨_, e⟩
  | tbl ps => exact ⟨_, x⟩
  | met f y => exact ⟨_, x⟩
  | ext φ => obtain ⟨_, e, _⟩ := x; exact e
def CXE (P : Program) (w : World) : CXT := fun outer H s E e s' => ∃ (a t : Addr) (cls : Value) (B : Heap) (H' : Hp), e = .ref a ∧ s'.os = s.os ∧ AllBare s'.gens ∧ Heap.FlyingW B outer a cls (.ref t) s'.heap ∧
  (∀ h', B.StaysIn h' → s'.heap.UpToSlots h' → Un (frs outer) [] H H' s.heap h' ∧ HOk P w H' h') ∧ (∀ b o, s.heap.get? b = some o → b ∉ frs outer → H b = none → B.get? b = some o) ∧ s.heap.get? a = none ∧ H' a = none ∧ E cls none H'
section
variable {P : Program} {w : World} {K : PySem.W.Frag} {mg : Str → Option Value} {base : Heap} {N : List Str} {qual : Str} {scope : Scope} {f : Addr} {cd : Value} {A : Around} {outer : List Env} {s : Shared} {H : Hp} {E : XK}
theorem cxe_raise {C : Addr} (pins : List (Addr × Obj)) (σ : St) (H1 : Hp) (s1 : Shared) (h' : Heap) (e : Addr) (vs : List Value)
    (I : Inv (cxOf (CXE P w) P w K mg base N qual scope f cd A outer s H E) pins σ H1 s1) (hx : Heap.MadeExcOf s1.heap h' e (.ref C) vs) (hE : E (.ref C) none H1) : (cxOf (CXE P w) P w K mg base N qual scope f cd A outer s H E).xe (.ref e) { s1 with heap := h' } := by
  show wpAny (model P w) (A.deeper (envOfC qual scope s.heap.objs.size f cd)) (leaving (envOfC qual scope s.heap.objs.size f cd) (.ref e)) _ _ _
  have hst : s1.heap.FunFrames base (envOfC qual scope s.heap.objs.size f cd :: outer) := I.stack
  have hin : ∀ env ∈ (envOfC qual scope s.heap.objs.size f cd :: outer), ∀ b, env.frame = some b → b ∈ frs (envOfC qual scope s.heap.objs.size f cd :: outer) := fun env he b hb => List.mem_filterMap.mpr ⟨env, he, hb⟩
  refine wpAny_leaves_madeW (base := PySem.W.hideAll s1.heap (frs (envOfC qual scope s.heap.objs.size f cd :: outer))) (L := s.heap.objs.size) I.ok.frames rfl (fun b o q => PySem.W.of_hideAll _ q) (PySem.W.funFrames_hide hst hin) hx fun h2 t x1 x2 x3 x4 => ?_
  have hup : s1.heap.UpToSlots h2 := (Heap.UpToSlots.of_keeps hx.keeps).trans x4
  have inB : ∀ b o, s1.heap.get? b = some o → b ∉ frs (envOfC qual scope s.heap.objs.size f cd :: outer) → (PySem.W.hideAll s1.heap (frs (envOfC qual scope s.heap.objs.size f cd :: outer))).get? b = some o := fun b o q n => PySem.W.hideAll_get _ q n
  have fr : ∀ b, b ∈ frs (envOfC qual scope s.heap.objs.size f cd :: outer) → b = s.heap.objs.size ∨ b ∈ frs outer := fun b hb => by
    obtain ⟨env, he, hf⟩ := List.mem_filterMap.mp hb
    rcases List.mem_cons.mp he with rfl | he
    · exact .inl (Option.some.inj hf).symm
    · exact .inr (List.mem_filterMap.mpr ⟨env, he, hf⟩)
  have fr' : ∀ b, b ∈ frs outer → b ∈ frs (envOfC qual scope s.heap.objs.size f cd :: outer) := fun b hb => by
    obtain ⟨env, he, hf⟩ := List.mem_filterMap.mp hb
    exact List.mem_filterMap.mpr ⟨env, .tail _ he, hf⟩
  have old : ∀ b o, s.heap.get? b = some o → b ∉ frs outer → b ∉ frs (envOfC qual scope s.heap.objs.size f cd :: outer) := fun b o q n hb => by
    rcases fr b hb with z | z
    · subst z; exact absurd (Heap.lt_size q) (Nat.lt_irrefl _)
    · exact n z
  have un : Un (frs outer) [] H H1 s.heap s1.heap := I.base
  have free : ∀ b ∈ frs (envOfC qual scope s.heap.objs.size f cd :: outer), H1 b = none := I.stkFree
  have hok : HOk P w H1 s1.heap := I.hok
  refine ⟨e, t, .ref C, _, H1, rfl, I.os, I.bare, x1, fun h3 hB hu => ?_, fun b o q n hn => inB b o (un.keep b o q hn n (by simp)) (old b o q n), ?_, ?_, hE⟩
  case refine_2 =>
    cases q : s.heap.get? e with
    | none => rfl
    | some o =>
      obtain ⟨o', q1⟩ := un.there e o q (by simp)
      rw [hx.new] at q1
      cases q1
  case refine_3 =>
    cases q : H1 e with
    | none => rfl
    | some o =>
      obtain ⟨u, q1⟩ := (hok e o q).some
      rw [hx.new] at q1
      cases q1
  have hu' := hup.trans hu
  have frame : ∀ b o, s1.heap.get? b = some o → b ∈ frs (envOfC qual scope s.heap.objs.size f cd :: outer) → ∃ sl, h3.get? b = some { o with slots := sl } := fun b o q hb => by
    obtain ⟨_, o', ho', hd⟩ := hst.mem hb
    rw [q] at ho'
    cases ho'
    exact hu' b o q hd
  refine ⟨⟨fun b o q hn hb _ => hB b o (inB b o (un.keep b o q hn hb (by simp)) (old b o q hb)), fun b o q hn hb _ => ?_, fun b o q hn _ => un.free b o q hn (by simp), fun b o q _ => ?_, un.tups, un.frzs, un.tbls⟩, fun a o q => (hok a o q).stay (fun b u hb qb => ?_) (fun _ q => q) fun _ _ q => q⟩
  · obtain ⟨sl, q1⟩ := un.slot b o q hn hb (by simp)
    obtain ⟨sl2, q2⟩ := frame b _ q1 (fr' b hb)
    exact ⟨sl2, q2⟩
  · obtain ⟨o', q1⟩ := un.there b o q (by simp)
    by_cases hb : b ∈ frs (envOfC qual scope s.heap.objs.size f cd :: outer)
    · obtain ⟨sl, q2⟩ := frame b o' q1 hb
      exact ⟨_, q2⟩
    · exact ⟨o', hB b o' (inB b o' q1 hb)⟩
  · have hnf : b ∉ frs (envOfC qual scope s.heap.objs.size f cd :: outer) := fun z => by
      have hf := free b z
      rcases hb with rfl | hb
      · rw [hf] at q; cases q
      · rw [hf] at hb; cases hb
    exact hB b u (inB b u qb hnf)
end
end L2
set_option maxHeartbeats 4000000
namespace L2
open PySem PySem.Spec PyProof.Rows PySem.W
structure ExcK (K : PySem.W.Frag) (C : Addr) : Prop where
  ga : findIn K (.ref C) "__getattribute__" = some (some (.builtin "BaseException.__getattribute__"))
  gt : findIn K (.ref C) "__getattr__" = some none
  cl : findIn K (.ref C) "__class__" = some (some (.builtin "object.__class__"))
  mB : mroIn K C (.type "BaseException") = some true
  mO : mroIn K C (.type "object") = some true
section
variable {prog : Program} {w : World} {A : Around} {E : Value → Shared → Prop} {K : PySem.W.Frag} {h : Heap} {g : Array GenState} {d : Drawn} {t : Nat} {os : OsState} {a C : Addr} {o : Obj}
theorem exc_class_get {R : Result → Shared → Prop} {tp : Value} (X : K.In h) (hx : h.get? a = some o) (hc : o.cls = .ref C) (hm : mroIn K C (.type "object") = some true)
    (hq : R (.ok (.ret (.ref C))) ⟨h, g, d, t, os⟩) : codeAny (model prog w) A (.call (.builtin "getset_descriptor.__get__") ⟨[.builtin "object.__class__", .ref a, tp], []⟩) R ⟨h, g, d, t, os⟩ := by
  have L1 := looks_mroIn (M := model prog w) X hm
  have L0 : Looks (model prog w) h (typeOf (.ref a)) (.ref C) := hc ▸ (Looks.ld hx).andThen .now
  refine codeAny_call_builtin KF.slot_gs.plain KF.entry_gs (KF.slot_gs.check _ _ _ _ _ _ _ _ KF.type_class (KF.args_gs _ _ _) ?_)
  unfold Builtin.«getset_descriptor.__get__» Builtin.Getset_descriptor.descrGet
  rw [dga_obj]
  refine wpAny_bind (wpAny_pure ?_)
  unfold Builtin.Getset_descriptor.descrGetter Builtin.Getset_descriptor.descrCheckInstance Builtin.Getset_descriptor.descrNameAndClass isInstance
  simp only [KF.owner_class]
  repeat (first | with_reducible refine L0.at ?_ | with_reducible refine L1.at ?_ | wp_step)
  refine ⟨Code.quiet_builtin _ (by decide +kernel), codeAny_builtin KF.entry_class ?_⟩
  unfold Builtin.«object.__class__» shownTypeOf
  repeat (first | with_reducible refine L0.at ?_ | with_reducible refine L1.at ?_ | wp_step)
  exact hq
theorem exc_check {nameV : Value} {Q : Unit → Shared → Prop} (FK : ExcK K C) (X : K.In h) (hx : h.get? a = some o) (hc : o.cls = .ref C) (hq : Q () ⟨h, g, d, t, os⟩) :
    wpAny (model prog w) A (checkBuiltinCall "BaseException.__getattribute__" ⟨[.ref a, nameV], []⟩) Q E ⟨h, g, d, t, os⟩ := by
  have hk : builtinKind "BaseException.__getattribute__" = some .slot := by decide +kernel
  have hsplit : splitId "BaseException.__getattribute__" = some ("BaseException", "__getattribute__") := by decide +kernel
  have ha := F.args_bexc_ga (.ref a) nameV
  have L := looks_mroIn (M := model prog w) X FK.mB
  simp only [checkBuiltinCall, hk, hsplit]
  refine wpAny_bind ?_
  unfold isInstance
  repeat (first | (with_reducible refine wpAny_loadPart_at hx ?_; rw [hc]) | with_reducible refine L.at ?_ | wp_step)
  exact hq
theorem exc_entry {tk : Tok} {Q : Fin → Shared → Prop} (FK : ExcK K C) (X : K.In h) (hx : h.get? a = some o) (hc : o.cls = .ref C) (hq : Q (.done (.ret (.ref C))) ⟨h, g, d, t, os⟩) :
    wpAny (model prog w) A (Builtin.«object.__getattribute__» ⟨[.ref a, .str "__class__" tk], []⟩) Q E ⟨h, g, d, t, os⟩ := by
  have L := looks_findIn (M := model prog w) X FK.cl
  have f5 : typeOf (.builtin "object.__class__") = pure (.type "getset_descriptor") := by
    have hk : builtinKind "object.__class__" = some .getset := by decide +kernel
    have hop : withoutEnding? "object.__class__" "#opaque" = none := by decide +kernel
    have hdat : withoutEnding? "object.__class__" "#data" = none := by decide +kernel
    simp only [typeOf, builtinType, hop, hdat, hk]
    rfl
  have f6 := F.slot_gs_get.lookup
  have f7 := F.slot_gs_set.lookup
  repeat (any_goals (first | assumption | (with_reducible refine wpAny_loadPart_at hx ?_; rw [hc]) | with_reducible refine L.at ?_ | wp_step))
  exact exc_class_get X hx hc FK.mO (wpAny_pure hq)
theorem exc_by {tk : Tok} {fill expr : Bool} {Q : Value → Shared → Prop} (FK : ExcK K C) (X : K.In h) (hx : h.get? a = some o) (hc : o.cls = .ref C) (hq : Q (.ref C) ⟨h, g, d, t, os⟩) :
    wpAny (model prog w) A (getAttrBy (.ref a) (.str "__class__" tk) fill expr) Q E ⟨h, g, d, t, os⟩ := by
  have f3 : bindSpecial (.builtin "BaseException.__getattribute__") (.ref a) = pure (.builtin "BaseException.__getattribute__", [.ref a]) := by
    have hk : builtinKind "BaseException.__getattribute__" = some .slot := by decide +kernel
    have hop : withoutEnding? "BaseException.__getattribute__" "#opaque" = none := by decide +kernel
    have hdat : withoutEnding? "BaseException.__getattribute__" "#data" = none := by decide +kernel
    simp only [bindSpecial, typeOf, builtinType, hop, hdat, hk]
    rfl
  have hx0 : (expr && onTheHeap (Value.builtin "BaseException.__getattribute__")) = false := by cases expr <;> rfl
  have hx2 : (Value.builtin "BaseException.__getattribute__" == Value.builtin "object.__getattribute__") = false := by decide +kernel
  have hx1 : (onTheHeap (Value.ref C) && Value.builtin "BaseException.__getattribute__" == Value.builtin "object.__getattribute__") = false := by rw [hx2]; rfl
  have L1 := looks_findIn (M := model prog w) X FK.ga
  have L2' := looks_findIn (M := model prog w) X FK.gt
  repeat (any_goals (first | assumption | (with_reducible refine wpAny_loadPart_at hx ?_; rw [hc]) | with_reducible refine L1.at ?_ | with_reducible refine L2'.at ?_ | wp_step))
  refine codeAny_call_builtin (by decide +kernel) F.entry_bexc_ga (exc_check FK X hx hc (exc_entry FK X hx hc ?_))
  repeat (any_goals (first | assumption | wp_step))
theorem exc_attr {s : Shared} {Q : Option Value → Shared → Prop} (FK : ExcK K C) (X : K.In s.heap) (hx : s.heap.get? a = some o) (hc : o.cls = .ref C) (hq : Q (some (.ref C)) { s with toks := s.toks + 1 }) :
    wpAny (model prog w) A (getAttr? (.ref a) "__class__") Q E s := by
  obtain ⟨h, g, d, t, os⟩ := s
  unfold getAttr? getAttrBy?
  repeat (any_goals (first | assumption | with_reducible apply exc_by FK X hx hc | wp_step))
end
end L2
namespace L2
open PySem PySem.Spec PyProof.Rows PySem.W
section
variable {prog : Program} {w : World} {A : Around} {E : Value → Shared → Prop} {K : PySem.W.Frag} {a C D : Addr} {o : Obj} {s : Shared}
theorem exc_matches {Q : Bool → Shared → Prop} (X : K.In s.heap) (ho : s.heap.get? a = some o) (hc : o.cls = .ref C) (hD : excIn K D vmro "ValueError.__new__" = true) (hm : mroIn K C (.ref D) = some true) (hq : Q true s) :
    wpAny (model prog w) A (excMatches (.ref a) (.ref D)) Q E s := by
  obtain ⟨h, g, d, t, os⟩ := s
  obtain ⟨bm, N, nm, qn, bs, hdct, sn, sub, ab, col, dd, k0, k1, k2, k3, k5, mN, hDo, hN, hni, T⟩ := cls_obj X hD
  have hB : bm.contains (.type "BaseException") = true := T.hasType PySem.F.excBase_ValueError.hasBase
  have hcB : (Value.ref D :: bm).contains (.type "BaseException") = true := by rw [List.contains_cons, hB, Bool.or_true]
  have L := looks_mroIn (M := model prog w) X hm
  have f := tc_notTuple
  unfold excMatches
  repeat (first | (with_reducible refine wpAny_loadPart_at ho ?_; rw [hc]) | with_reducible refine wpAny_loadPart_at hDo ?_ | (with_reducible refine wpAny_isSubtype_exc hDo ?_; rw [hcB]) | with_reducible refine L.at ?_ | wp_step)
  exact hq
theorem kitx_exc (FK : ExcK K C) (hcl : (clsIn K C).isSome = true) : KitX K (.ref a) (.ref C) (fun h => ∃ o, h.get? a = some o ∧ o.cls = .ref C) where
  ty := fun _ _ _ ⟨o, hx, hc⟩ => hc ▸ (Looks.ld hx).andThen .now
  it := fun _ _ X _ => by
    unfold clsIn at hcl
    split at hcl
    · rename_i c' d' cd' sl' ho
      intro A' Q' E' s' k q
      unfold isType loadHead
      exact wpAny_bind (wpAny_loadPart (k _ _ (X _ _ ho)) (wpAny_pure q))
    · cases hcl
  ne := fun h tp dd its n sl X htp => by
    refine Bool.eq_false_iff.mpr fun q => ?_
    have e : C = tp := Value.ref.inj (beq_iff_eq.mp q)
    subst e
    unfold clsIn at hcl
    split at hcl
    · rename_i c' d' cd' sl' ho
      have z := (X _ _ ho).symm.trans htp
      cases z
    · cases hcl
  ca := fun X ⟨o, hx, hc⟩ k => exc_attr FK X hx hc k
end
end L2
set_option maxHeartbeats 4000000
namespace L2
open PySem PySem.Spec PyProof.Rows PySem.W
abbrev Cx.inSuite (X : Cx) (a : Addr) (E : Value → Shared → Prop) : Cx := { X with A := X.A.mark (some (.ref a)), calm := false, xe := E }
section
variable {X : Cx} {pins : List (Addr × Obj)} {σ : St} {H : Hp} {s : Shared} {a : Addr} {E : Value → Shared → Prop}
theorem Inv.suite (I : Inv X pins σ H s) (a : Addr) (E : Value → Shared → Prop) : Inv (X.inSuite a E) pins σ H s :=
  ⟨⟨I.ok.mod, I.ok.kind, I.ok.glob, I.ok.blt, I.ok.above, I.ok.inj, I.ok.has, I.ok.cab, (fun h => by cases h), I.ok.frames, I.ok.stk, I.ok.exf, I.ok.bs, I.ok.bsz, I.ok.noex, I.ok.exfs, I.ok.funs, I.ok.frf⟩, I.os, I.bare, I.base, I.loc, I.cell, I.free, I.freeC, I.pin, I.hok, I.len⟩
theorem Inv.unsuite (ok : X.Ok) (I : Inv (X.inSuite a E) pins σ H s) : Inv X pins σ H s := ⟨ok, I.os, I.bare, I.base, I.loc, I.cell, I.free, I.freeC, I.pin, I.hok, I.len⟩
theorem Inv.track (I : Inv X pins σ H s) {o : HO} (ha : H a = none) (h0 : X.s₀.heap.get? a = none) (hL : a ≠ X.env.locals) (hcl : ∀ x c, X.env.cells.lookup x = some c → c ≠ a) (hp : ∀ p ∈ X.pn ++ pins, p.1 ≠ a)
    (new : ObjOk X.prog X.w (upd H a o) s.heap a o) : Inv X pins σ (upd H a o) s := by
  have ne : ∀ b u, H b = some u → b ≠ a := fun b u e z => by rw [z, ha] at e; cases e
  refine ⟨I.ok, I.os, I.bare, ⟨I.base.keep, I.base.slot, fun b o e n hx => ?_, I.base.there, fun b xs e => ?_, fun b o u e => ?_, fun b ps e => ?_⟩, I.loc, I.cell, ?_, fun x c e => ?_, fun p hpp => ?_, fun b u e => ?_, I.len⟩
  · rw [upd_ne (fun z : b = a => by rw [z, h0] at e; cases e)]
    exact I.base.free b o e n hx
  · have q := I.base.tups b xs e
    rw [upd_ne (ne b _ q)]
    exact q
  · have q := I.base.frzs b o u e
    rw [upd_ne (ne b _ q)]
    exact q
  · obtain ⟨more, q⟩ := I.base.tbls b ps e
    exact ⟨more, by rw [upd_ne (ne b _ q)]; exact q⟩
  · rw [upd_ne (Ne.symm hL)]
    exact I.free
  · rw [upd_ne (hcl x c e)]
    exact I.freeC x c e
  · obtain ⟨p1, p2, p3⟩ := I.pin p hpp
    exact ⟨p1, by rw [upd_ne (hp p hpp)]; exact p2, p3⟩
  · by_cases hb : b = a
    · subst hb
      rw [upd_same] at e
      cases e
      exact new
    · rw [upd_ne hb] at e
      refine (I.hok b u e).stay (fun _ _ _ q => q) (fun c q => ?_) fun c xs q => ?_
      · rw [upd_ne (ne c _ q)]; exact q
      · rw [upd_ne (ne c _ q)]; exact q
theorem gone_ok {M : Model} {A : Around} {i : Nat} {x : Str} {pos : Pos} {Q : Unit → Shared → Prop} (I : Inv X pins σ H s) (hN : X.N.Nodup) (hi : X.N[i]? = some x) (hx : X.env.kindOf x = some .local)
    (h : ∀ s', Inv X pins (σ.set i none) H s' → Q () s') : wpAny M A (do bindName X.env x .none; unbindBehindTheSuite X.env x pos) Q E s := by
  obtain ⟨m, hn, hl⟩ := id I.loc
  have hcls : (X.env.scope.kind == .class || (X.env.scope.kind == .module && X.env.locals != X.env.globals)) = false := by rw [I.ok.kind]; rfl
  have cne := I.cne
  refine wpAny_nameGoes_keeps hx hn hcls fun h' v hn' hs => ?_
  obtain ⟨oL, _, _, hoL, _⟩ := id hn
  have tracked : HOk X.prog X.w H h' := fun b ob e => by
    refine (I.hok b ob e).stay (fun c w' hc q => (hs.2 c ?_).trans q) (fun _ q => q) fun _ _ q => q
    rintro rfl
    rcases hc with rfl | hc
    · rw [I.free] at e; cases e
    · rw [I.free] at hc; cases hc
  refine h _ ⟨I.ok, I.os, I.bare, ⟨fun b o e n hb hx => ?_, fun b o e n hb hx => ?_, I.base.free, fun b o e hx => ?_, I.base.tups, I.base.frzs, I.base.tbls⟩, ⟨_, hn', fun j y v' e1 e2 e3 => ?_⟩, fun y c e => ?_, I.free, I.freeC, fun p hp => ?_, tracked, by simpa using I.len⟩
  · exact (hs.2 b (Nat.ne_of_lt (Nat.lt_of_lt_of_le (Heap.lt_size e) I.ok.above))).trans (I.base.keep b o e n hb hx)
  · obtain ⟨sl, e1⟩ := I.base.slot b o e n hb hx
    exact ⟨sl, (hs.2 b (Nat.ne_of_lt (Nat.lt_of_lt_of_le (Heap.lt_size e) I.ok.above))).trans e1⟩
  · obtain ⟨o', e1⟩ := I.base.there b o e hx
    exact ⟨o', (hs.2 b (Nat.ne_of_lt (Nat.lt_of_lt_of_le (Heap.lt_size e) I.ok.above))).trans e1⟩
  · by_cases hj : j = i
    · subst hj
      rw [List.getElem?_set] at e2
      split at e2
      · split at e2 <;> cases e2
      · rename_i hne; exact absurd rfl hne
    · rw [List.getElem?_set_ne (Ne.symm hj)] at e2
      obtain ⟨u', r', q⟩ := hl j y v' e1 e2 e3
      refine ⟨u', r', ?_⟩
      rcases q with ⟨k, e⟩ | ⟨k, c, e, z⟩
      · refine .inl ⟨k, ?_⟩
        have : y ≠ x := fun e => hj (nodup_ix hN e1 (e ▸ hi))
        simp [this, e]
      · exact .inr ⟨k, c, e, z.sameBut hs (cne y c e)⟩
  · obtain ⟨w', z⟩ := I.cell y c e
    exact ⟨w', z.sameBut hs (cne y c e)⟩
  · obtain ⟨e, n, ne, nf, d⟩ := I.pin p hp
    exact ⟨(hs.2 p.1 ne).trans e, n, ne, nf, d⟩
end
def excP (a C : Addr) : Heap → Prop := fun h => ∃ o, h.get? a = some o ∧ o.cls = .ref C
def XS (X : Cx) (pins : List (Addr × Obj)) (σ : St) (a C : Addr) (H' : Hp) (s' : Shared) : Prop :=
  ∃ (t : Addr) (B : Heap), Heap.FlyingW B X.stack a (.ref C) (.ref t) s'.heap ∧ (∀ h', B.StaysIn h' → s'.heap.UpToSlots h' → Inv X pins σ H' { s' with heap := h' }) ∧ H' a = none ∧ X.s₀.heap.get? a = none ∧ a ≠ X.env.locals ∧ (∀ x c, X.env.cells.lookup x = some c → c ≠ a) ∧ ∀ p ∈ X.pn ++ pins, p.1 ≠ a
section
variable {X : Cx} {pins : List (Addr × Obj)} {σ : St} {H : Hp} {s s' : Shared} {e : Value}
theorem Inv.flew (I : Inv X pins σ H s) {E : XK} (h : CXE X.prog X.w X.stack H s E e s') (hex : X.ex = []) : ∃ (a : Addr) (cls : Value) (H' : Hp), e = .ref a ∧ E cls none H' ∧ ∀ C, cls = .ref C → XS X pins σ a C H' s' := by
  obtain ⟨a, t, cls, B, H', rfl, hos, hg, hfl, hst, _, hn, hH, hE⟩ := h
  refine ⟨a, cls, H', rfl, hE, fun C hC => ?_⟩
  subst hC
  refine ⟨t, B, hfl, fun h' hB hu => ?_, hH, ?_, ?_, fun x c hc z => ?_, fun p hp z => ?_⟩
  · obtain ⟨un, hok⟩ := hst h' hB hu
    exact I.call' (s' := { s' with heap := h' }) (ch := []) hos un hok hg (fun b z => absurd z (by simp))
  · cases q : X.s₀.heap.get? a with
    | none => rfl
    | some o =>
      obtain ⟨o', q1⟩ := I.base.there a o q (by rw [hex]; simp)
      rw [hn] at q1
      cases q1
  · intro z
    obtain ⟨m, ⟨o, _, _, ho, _⟩, _⟩ := I.loc
    rw [← z, hn] at ho
    cases ho
  · obtain ⟨v, o, ho, _⟩ := I.cell x c hc
    rw [z, hn] at ho
    cases ho
  · have := (I.pin p hp).1
    rw [z, hn] at this
    cases this
end
end L2
set_option maxHeartbeats 4000000
namespace L2
open PySem PySem.Spec PyProof.Rows PySem.W
section
variable {X : Cx} {pins : List (Addr × Obj)} {σ : St} {H' : Hp} {s' : Shared} {a C Dc : Addr} {i : Nat} {x n : Str} {np pos : Pos} {b₀ : Stmt} {suite : List Stmt} {tb : TS} {D : Ends}
def goneE (i : Nat) (D : Ends) : Ends := { nx := fun σ H => D.nx (σ.set i none) H, rt := D.rt }
theorem wp_catch (hstk : X.stack = X.env :: X.outer) (hfm : X.env.frame = some X.env.locals) (hN : X.N.Nodup) (hi : X.N[i]? = some n) (hl : X.env.kindOf n = some .local) (hg : Gl X x) (hm : X.mg x = some (.ref Dc)) (hD : excIn X.K Dc vmro "ValueError.__new__" = true) (hsub : mroIn X.K C (.ref Dc) = some true)
    (S : XS X pins σ a C H' s') (hb : PSs (X.inSuite a fun _ _ => False) (b₀ :: suite) tb) (ht : tb (goneE i D) (σ.set i (some (.ref a))) (upd H' a (.ext (excP a C)))) (hd : (x == ("__debug__" : Str)) = false := by decide)
    (hf : X.fn n = true ∨ X.env.scope.names.lookup n = some .local := by first | exact .inl rfl | exact .inr rfl | assumption) :
    wpAny (model X.prog X.w) X.A (noteFrame (.ref a) X.env) (fun _ s₂ => wpAny (model X.prog X.w) X.A (setFlight (.ref a) none) (fun _ s₃ =>
      wpAny (model X.prog X.w) X.A (handleBy (.ref a) X.env [.ExceptHandler (some (.Name x np)) (some n) (b₀ :: suite) pos]) (SP X pins D) X.xe s₃) X.xe s₂) X.xe s' := by
  obtain ⟨t, B, hfl, hInv, hH, h0, hL, hcl, hpn⟩ := S
  have I0 := hInv s'.heap hfl.1 (Heap.UpToSlots.refl _)
  have hfr : X.A.frames = some (X.env :: X.outer) := by rw [← hstk]; exact I0.ok.frames
  rw [hstk] at hfl
  refine wpAny_looks_onW (L := X.env.locals) hfr hfm hfl fun h₄ hheld₄ hsm₄ => ?_
  refine wpAny_landsW hheld₄ fun h₅ hfl5 hsm5 => ?_
  have I5 := hInv h₅ hfl5.1 (hsm₄.trans hsm5)
  obtain ⟨ob, hob, hobc⟩ := hfl5.there
  refine wpAny_handleBy_cons (codeAny_handlers_test ?_) (by intro q; cases q)
  refine ld_glob (X := X.inSuite a fun _ _ => False) (I5.suite a fun _ _ => False) hg hm ?_ hd
  refine exc_matches (K := X.K) I5.kIn hob hobc hD hsub (codeAny_handlers_suite_as ?_)
  refine lands_againW hfl5 fun h₆ hfl6 hsm6 => ?_
  have I6 := hInv h₆ hfl6.1 ((hsm₄.trans hsm5).trans hsm6)
  obtain ⟨oe, hoe, hoec⟩ := hfl6.there
  have I7 := I6.track (o := .ext (excP a C)) hH h0 hL hcl hpn ⟨⟨oe, hoe, hoec⟩, ⟨oe, hoe⟩, fun h1 h2 ⟨o, q1, q2⟩ k => ⟨o, k o q1, q2⟩⟩
  refine store_ok (X := X.inSuite a fun _ _ => False) (v := .ref a) (I7.suite a _) hN hi (.inl hl) rfl (fun s8 I8 => ?_) hf
  refine wpAny_mono (hb pins s8 _ _ (goneE i D) I8 ht) (fun f s9 h9 => ?_) fun _ _ z => z.elim
  cases f with
  | next =>
    obtain ⟨σ1, H1, I9, q⟩ := h9
    exact gone_ok (I9.unsuite I0.ok) hN hi hl fun s10 I10 => ⟨_, H1, I10, q⟩
  | ret u =>
    obtain ⟨v, σ1, H1, I9, rv, q⟩ := h9
    exact gone_ok (I9.unsuite I0.ok) hN hi hl fun s10 I10 => ⟨v, _, H1, I10, rv, q⟩
  | brk =>
    obtain ⟨_, _, _, q⟩ := h9
    exact q.elim
  | cont =>
    obtain ⟨_, _, _, q⟩ := h9
    exact q.elim
end
end L2
set_option maxHeartbeats 4000000
namespace L2
open PySem PySem.Spec PyProof.Rows PySem.W
theorem refs_vals : ∀ (ds : List Addr) (its : List Value), Vals (ds.map V.ref) its → its = ds.map Value.ref
  | [], _, r => by cases r; rfl
  | d :: ds, _, r => by
    cases r with
    | cons p t =>
      cases p
      exact congrArg (Value.ref d :: ·) (refs_vals ds _ t)
section
variable {X : Cx} {C : Addr}
theorem call_isE (FK : ExcK X.K C) (hcl : (clsIn X.K C).isSome = true) : CallR X (.builtin "isinstance") (fun xs H Q => ∃ (a : Addr) (c : V) (b : Bool), xs = [.ref a, c] ∧ H a = some (.ext (excP a C)) ∧
    ((∃ D, c = .ref D ∧ kitOne X.K (.ref C) (.ref D) = some b) ∨ (∃ T, c = .ty T ∧ kitOne X.K (.ref C) (.type T) = some b) ∨ (∃ (tp : Addr) (ds : List Addr), c = .ref tp ∧ H tp = some (.tup (ds.map V.ref)) ∧ kitAny X.K (.ref C) (ds.map Value.ref) = some b)) ∧ Q (.bl b) H) := by
  intro pins s σ H xs us Q I r h
  obtain ⟨a, c, b, rfl, ha, hc, q⟩ := h
  obtain ⟨u, u2, rfl, rx, rx2⟩ := vals2 r
  cases rx
  have hp : excP a C s.heap := (show ObjOk X.prog X.w H s.heap a (.ext (excP a C)) from I.hok a _ ha).1
  have fin : ∀ tk, EP X pins σ Q (.bool b) { s with toks := tk } := fun tk => ⟨.bl b, H, I.kept (t' := tk) (fun _ _ e => e), rfl, q⟩
  rcases hc with ⟨D, rfl, e⟩ | ⟨T, rfl, e⟩ | ⟨tp, ds, rfl, ht, e⟩
  · cases rx2
    exact kia_one (kitx_exc FK hcl) I.kIn hp e (by simp) fin
  · cases rx2
    exact kia_one (kitx_exc FK hcl) I.kIn hp e (by simp) fin
  · cases rx2
    obtain ⟨its, r2, ⟨o, ho, hoc, n, hd⟩, _⟩ := I.tuple (SqT.of ht)
    have hits := refs_vals ds its r2
    subst hits
    obtain ⟨oc, od, odt, osl⟩ := o
    dsimp only at hoc hd
    subst hoc hd
    exact kia_tup (kitx_exc FK hcl) I.kIn hp ho e (by simp) fin
end
end L2
set_option maxHeartbeats 4000000
namespace L2
open PySem PySem.Spec PyProof.Rows PySem.W
abbrev PEx := SEnv → Option Str
def PuX (K : PySem.W.Frag) (R : Str → Hp → Prop) (ts : TS) (G : PEx) : Prop := ∀ (H0 : Hp) (O0 : List Addr) (Gh : Hp) (σ : St) (H : Hp) (ρ : SEnv) (C : Str) (E : Ends), OkO O0 H0 → StR K H0 O0 Gh σ H ρ → G ρ = some C →
  (∀ (σ' : St) (H' : Hp) (ρ' : SEnv), StR K H0 O0 Gh σ' H' ρ' → R C H') → ts E σ H
structure JX (X : Cx) (K : PySem.W.Frag) (R : Str → Hp → Prop) (st : Stmt) (ts : TS) (F : PSt) (G : PEx) : Prop where
  pe : PS X st ts
  pu : PuS K ts F
  px : PuX K R ts G
structure JXs (X : Cx) (K : PySem.W.Frag) (R : Str → Hp → Prop) (st : List Stmt) (ts : TS) (F : PSt) (G : PEx) : Prop where
  pe : PSs X st ts
  pu : PuS K ts F
  px : PuX K R ts G
def gNo : PEx := fun _ => none
def gSq (F : PSt) (G G' : PEx) : PEx := fun ρ => match G ρ with
  | some C => some C
  | none => (F ρ).bind fun o => match o with
    | .nx ρ' => G' ρ'
    | _ => none
def gIf (c : PB) (G G' : PEx) : PEx := fun ρ => (c (full ρ)).bind fun b => if b = true then G ρ else G' ρ
def gRaise (C : Str) : PEx := fun _ => some C
section
variable {X : Cx} {K : PySem.W.Frag} {R : Str → Hp → Prop} {st : Stmt} {rest : List Stmt} {t u : TS} {F F' : PSt} {G G' : PEx} {pos : Pos}
theorem PS.nox {st : Stmt} {t : TS} (h : PS X.nox st t) : PS X st t := fun pins s σ H D I hw =>
  wpAny_mono (h pins s σ H D (I.wish _) hw) (fun _ _ q => q.unwish) fun _ _ z => False.elim z
theorem jx_of (h : JS X.nox K st t F) : JX X K R st t F gNo := ⟨PS.nox h.pe, h.pu, by
  intro H0 O0 Gh σ H ρ C E ok s hf q
  cases hf⟩
theorem jxs_of {st : List Stmt} (h : JSs X.nox K st t F) : JXs X K R st t F gNo := ⟨PSs.nox h.pe, h.pu, by
  intro H0 O0 Gh σ H ρ C E ok s hf q
  cases hf⟩
theorem jxs_one (h : JX X K R st t F G) : JXs X K R [st] t F G := ⟨pss_one h.pe, h.pu, h.px⟩
theorem jxs_cons (h1 : JX X K R st t F G) (h2 : JXs X K R rest u F' G') : JXs X K R (st :: rest) (tSeq t u) (pSq F F') (gSq F G G') := ⟨pss_cons h1.pe h2.pe, (by
  intro H0 O0 Gh σ H ρ o E ok s hf q
  obtain ⟨o1, e1, hf⟩ := bind_some' hf
  refine h1.pu H0 O0 Gh σ H ρ o1 _ ok s e1 ?_
  cases o1 with
  | nx ρ' => exact fun σ' H' s' => h2.pu H0 O0 Gh σ' H' ρ' o E ok s' hf q
  | rt d => cases hf; exact q
  | rl d => cases hf; exact q
  | rn d => cases hf; exact q
  | rp d e => cases hf; exact q
  | ro d e => cases hf; exact q
  | bk d => cases hf; exact q
  | ct d => cases hf; exact q), by
  intro H0 O0 Gh σ H ρ C E ok s hf q
  unfold gSq at hf
  cases hG : G ρ with
  | some C' =>
    rw [hG] at hf
    cases hf
    exact h1.px H0 O0 Gh σ H ρ C _ ok s hG q
  | none =>
    rw [hG] at hf
    obtain ⟨o1, e1, hf⟩ := bind_some' hf
    cases o1 with
    | nx ρ' => exact h1.pu H0 O0 Gh σ H ρ (.nx ρ') _ ok s e1 fun σ' H' s' => h2.px H0 O0 Gh σ' H' ρ' C E ok s' hf q
    | rt d => cases hf
    | rl d => cases hf
    | rn d => cases hf
    | rp d e => cases hf
    | ro d e => cases hf
    | bk d => cases hf
    | ct d => cases hf⟩
theorem jx_if {c : Expr} {a b : List Stmt} {tc : TT} {pc : PB} (hc : JT X.nox K c tc pc) (ha : JXs X K R a t F G) (hb : JXs X K R b u F' G') : JX X K R (.If c a b pos) (tIfS tc t u) (pIfS pc F F') (gIf pc G G') := ⟨ps_if (PT.nox hc.pe) ha.pe hb.pe, (by
  intro H0 O0 Gh σ H ρ o E ok s hf q
  obtain ⟨k, e1, hf⟩ := bind_some' hf
  have ⟨o1, e2⟩ := s.envF ok
  refine hc.pu O0 σ H (full ρ) k _ o1 e2 e1 fun H' s' => ?_
  cases k with
  | true =>
    rw [if_pos rfl] at hf ⊢
    exact ha.pu H0 O0 Gh σ H' ρ o E ok (s.grow s') hf q
  | false =>
    rw [if_neg Bool.false_ne_true] at hf ⊢
    exact hb.pu H0 O0 Gh σ H' ρ o E ok (s.grow s') hf q), by
  intro H0 O0 Gh σ H ρ C E ok s hf q
  obtain ⟨k, e1, hf⟩ := bind_some' hf
  have ⟨o1, e2⟩ := s.envF ok
  refine hc.pu O0 σ H (full ρ) k _ o1 e2 e1 fun H' s' => ?_
  cases k with
  | true =>
    rw [if_pos rfl] at hf ⊢
    exact ha.px H0 O0 Gh σ H' ρ C E ok (s.grow s') hf q
  | false =>
    rw [if_neg Bool.false_ne_true] at hf ⊢
    exact hb.px H0 O0 Gh σ H' ρ C E ok (s.grow s') hf q⟩
end
structure CalleeX (P : Program) (w : World) (K : PySem.W.Frag) (mg : Str → Option Value) (base : Heap) (k : Nat) (x : Str) (ps : List Str) (sp : Sp) : Prop where
  ex : ∃ (f : Addr) (fd : FuncData), FnOk P w K mg base (CXE P w) k f fd ps sp ∧ mg x = some (.ref f) ∧ PySem.W.keepIn K (.ref f) = true ∧ Binds K fd ps [] ∧ ∃ o, K.lookup f = some o ∧ o.data = .func fd
def spX (K : PySem.W.Frag) (n : Nat) (mg : Str → Option Value) (g : List D → Option Str) : Sp := fun vs H _ E => vs.length = n ∧ ∃ (O : List Addr) (ds : List D) (x : Str), OkO O H ∧ RepAll K (hid O H) vs ds ∧ g ds = some x ∧ ∀ H', Same H H' → ∀ C, mg x = some (.ref C) → E (.ref C) none H'
def runX (n m : Nat) (G : PEx) : List D → Option Str := fun ds => if ds.length = n then G (startP m ds) else none
section
variable {P : Program} {w : World} {K : PySem.W.Frag} {mg : Str → Option Value} {base : Heap}
theorem CalleeX.mono {j k : Nat} {x : Str} {ps : List Str} {sp : Sp} (C : CalleeX P w K mg base j x ps sp) (h : j ≤ k) : CalleeX P w K mg base k x ps sp := by
  obtain ⟨f, fd, F, r⟩ := C.ex
  exact ⟨f, fd, F.mono h, r⟩
theorem jx_raise {N : List Str} {qual : Str} {scope : Scope} {f : Addr} {cd : Value} {A : Around} {outer : List Env} {s : Shared} {H : Hp} {E : XK} {x : Str} {C : Addr} {txt : Str} {j : Nat} {tp np cpos pos : Pos}
    (hh : (A.deeper (envOfC qual scope s.heap.objs.size f cd)).handled = none) (hg : Gl (cxOf (CXE P w) P w K mg base N qual scope f cd A outer s H E) x) (hm : mg x = some (.ref C)) (hq : PySem.W.excIn K C vmro "ValueError.__new__" = true) (hd : (x == ("__debug__" : Str)) = false := by decide) :
    JX (cxOf (CXE P w) P w K mg base N qual scope f cd A outer s H E) K (fun y H' => ∀ C, mg y = some (.ref C) → E (.ref C) none H') (.Raise (some (.Call (.Name x np) [.Constant (.str txt) j tp] [] cpos)) none pos)
      (fun _ σ H => tCons (tC (.str txt)) tNil σ H fun vs H1 => vs.length ≤ sizeLine ∧ E (.ref C) none H1) pNever (gRaise x) := by
  refine ⟨ps_raise (X := cxOf (CXE P w) P w K mg base N qual scope f cd A outer s H E) (XR := fun H1 => E (.ref C) none H1) hh hg hm hq (pa_cons pe_str pa_nil) (fun pins σ H1 s1 h' e vs I hx xr => cxe_raise pins σ H1 s1 h' e vs I hx xr) (hd := hd), ?_, ?_⟩
  · intro H0 O0 G σ H ρ o E ok s hf q
    cases hf
  · intro H0 O0 Gh σ H ρ C' E' ok s hf q
    cases hf
    exact ⟨by show 1 ≤ sizeLine; decide, q σ H ρ s C hm⟩
theorem Def.raises {x : Str} {st : Stmt} {N ps : List Str} {k n m : Nat} {G : PEx} {g : List D → Option Str} (hfn : g = runX n m G) (D : Def K mg x st ps) (S : FnScope N ps (defScope st)) (hn : ps.length = n) (hm : N.length = m)
    (hb : ∀ (f : Addr) (cdv : Value) (A : Around) (outer : List Env) (s : Shared) (H : Hp) (E : XK), Room k (A.deeper (envOfC x (defScope st) s.heap.objs.size f cdv)) →
      ∃ t F, JXs (cxOf (CXE P w) P w K mg base N x (defScope st) f cdv A outer s H E) K (fun y H' => ∀ C, mg y = some (.ref C) → E (.ref C) none H') (defBody st) t F G) : CalleeX P w K mg base (k + 1) x ps (spX K n mg g) := by
  subst hfn hm
  obtain ⟨f, fd, Fu, m, b, _⟩ := D.ex
  obtain ⟨oc, od, kV, doc, pm, an, cdv, ct, osl, rfl, lk, hcd⟩ := Fu.ex
  refine ⟨f, _, fn_of lk hcd S (fun vs H Q E h => by rw [h.1, hn]) fun A outer s H vs Q E hr hsp => ?_, m, Fu.kp, b, _, lk, rfl⟩
  obtain ⟨t, F, j⟩ := hb f cdv A outer s H E hr
  refine ⟨t, j.pe, ?_⟩
  obtain ⟨hl, O, ds, C, ok, r, hf, q⟩ := hsp
  have hl2 : ds.length = n := by rw [← r.length]; exact hl
  unfold runX at hf
  rw [if_pos hl2] at hf
  exact j.px H O (hid O H) _ H _ C _ ok (str_start r N) hf fun σ' H' ρ' s' => q H' s'.same
end
end L2
set_option maxHeartbeats 4000000
namespace L2
open PySem PySem.Spec PyProof.Rows PySem.W
def XE (X : Cx) (pins : List (Addr × Obj)) (σ : St) (R : Addr → Hp → Prop) : Value → Shared → Prop := fun e s' => ∃ (a C : Addr) (H' : Hp), e = .ref a ∧ XS X pins σ a C H' s' ∧ R C H'
def wantX (R : Addr → Hp → Prop) : XK := fun cls _ H' => ∃ C, cls = .ref C ∧ R C H'
section
variable {X : Cx} {k : Nat} {x : Str} {ps : List Str} {sp spx : Sp} {e : Expr} {es : List Expr} {t : TA} {p pos epos : Pos}
end
section
variable {X : Cx} {c : Expr} {tc : TT} {c1 c2 : Stmt} {t1 t2 : Ends → (Addr → Hp → Prop) → St → Hp → Prop} {x n : Str} {i : Nat} {Dc : Addr} {Cs : List Addr} {np hpos ipos pos : Pos} {b₀ : Stmt} {suite : List Stmt} {tb : Addr → TS}
end
end L2
set_option maxHeartbeats 4000000
namespace L2
open PySem PySem.Spec PyProof.Rows PySem.W
section
variable {X : Cx} {k : Nat} {x y : Str} {ps : List Str} {sp spx : Sp} {e : Expr} {es : List Expr} {t : TA} {p pos pos' apos : Pos} {i : Nat}
def tSetX (i : Nat) (sp spx : Sp) (t : TA) : Ends → (Addr → Hp → Prop) → St → Hp → Prop := fun D R σ H => t σ H fun vs H1 => sp vs H1 (fun v H2 => D.nx (σ.set i (some v)) H2) E0 ∨ spx vs H1 (fun _ _ => False) (wantX R)
theorem wp_setX (C : Callee X.prog X.w X.K X.mg X.base k x ps sp) (CX : CalleeX X.prog X.w X.K X.mg X.base k x ps spx) (hex : X.ex = []) (hr : Room k X.A) (hg : Gl X x) (ha : PA X.nox (e :: es) t) (hN : X.N.Nodup) (hi : X.N[i]? = some y) (hy : Loc X.env.scope y) (hdb : (x == ("__debug__" : Str)) = false := by decide)
    (he : starEach (e :: es) X.env = (false, eval e X.env) :: starEach es X.env := by rfl) (hpl : (backTo pos (starEach es X.env)).any (·.1) = false := by rfl) (hs : swapsWith (.Call (.Name x p) (e :: es) [] pos) (some (.Name y pos')) apos.line X.env = pure false := by rfl)
    (hfn : X.fn y = true ∨ X.env.scope.names.lookup y = some .local := by first | exact .inl rfl | exact .inr rfl | assumption)
    (pins : List (Addr × Obj)) (s : Shared) (σ : St) (H : Hp) (D : Ends) (R : Addr → Hp → Prop) (I : Inv X pins σ H s) (h : tSetX i sp spx t D R σ H) :
    wpAny (model X.prog X.w) X.A (exec (.Assign [.Name y pos'] (.Call (.Name x p) (e :: es) [] pos) apos) X.env) (SP X pins D) (XE X pins σ R) s := by
  obtain ⟨f, fd, F, m, kp, b, _⟩ := C.ex
  obtain ⟨f', fd', F', m', kp', b', _⟩ := CX.ex
  have e1 : f = f' := by
    have := m.symm.trans m'
    cases this
    rfl
  subst e1
  refine wpAny_Assign_Name (wpAny_Call_Name_kw (ld_glob I hg m ?_ hdb)) hs
  refine PySem.W.callWith_K (h₀ := X.base) I.ok.mod.kin kp (wpAny_mono (ha pos pins s σ H _ (I.wish _) h) (fun us s1 q => ?_) fun _ _ z => z.elim) he hpl
  obtain ⟨vs, H1, I1, r, q⟩ := q
  have I1' : Inv X pins σ H1 s1 := I1.unwish
  refine ⟨I1'.kIn, ?_⟩
  rcases q with q | q
  · have := run_fn (X := X.nox) (dvs := []) (ds := []) (E := E0) F hr b .nil pass0 (I1'.wish _) r (by rw [List.append_nil]; exact q)
    exact wpAny_mono this (fun v s2 ⟨z, H2, I2, r2, q2⟩ => store_ok I2.unwish hN hi hy r2 (fun s3 I3 => ⟨_, H2, I3, q2⟩) hfn) fun _ _ z => z.elim
  · have hl : us.length = ps.length := by rw [← r.length]; exact F'.len _ _ _ _ q
    have hbt := b' s1 us I1'.kIn (by rw [List.append_nil]; exact hl)
    rw [List.append_nil] at hbt
    refine wpAny_call (codeAny_mono (F'.run X.A X.stack s1 H1 ⟨us, []⟩ us vs (fun _ _ => False) (wantX R) hr I1'.env0 hbt r q) fun r s' hq => ?_)
    cases r with
    | error e =>
      obtain ⟨a, cls, H', rfl, ⟨C, hC, hR⟩, hx⟩ := I1'.flew hq hex
      exact ⟨a, C, H', rfl, hx C hC, hR⟩
    | ok fl =>
      cases fl with
      | ret u =>
        obtain ⟨_, _, _, _, _, _, _, z⟩ := hq
        exact z.elim
      | next => exact False.elim hq
      | brk => exact False.elim hq
      | cont => exact False.elim hq
end
section
variable {X : Cx} {c1 : Stmt} {t1 : Ends → (Addr → Hp → Prop) → St → Hp → Prop} {x n : Str} {i : Nat} {Dc : Addr} {Cs : List Addr} {np hpos pos : Pos} {b₀ : Stmt} {suite : List Stmt} {tb : Addr → TS}
def tTry1 (t1 : Ends → (Addr → Hp → Prop) → St → Hp → Prop) (i : Nat) (Cs : List Addr) (tb : Addr → TS) : TS := fun D σ H =>
  t1 D (fun C H2 => C ∈ Cs ∧ ∀ a, H2 a = none → tb C (goneE i D) (σ.set i (some (.ref a))) (upd H2 a (.ext (excP a C)))) σ H
theorem ps_try1 (hstk : X.stack = X.env :: X.outer) (hfm : X.env.frame = some X.env.locals) (hN : X.N.Nodup) (hi : X.N[i]? = some n) (hl : X.env.kindOf n = some .local) (hg : Gl X x) (hm : X.mg x = some (.ref Dc)) (hD : excIn X.K Dc vmro "ValueError.__new__" = true)
    (hsub : ∀ C ∈ Cs, mroIn X.K C (.ref Dc) = some true)
    (h1 : ∀ (pins : List (Addr × Obj)) (s : Shared) (σ : St) (H : Hp) (D : Ends) (R : Addr → Hp → Prop), Inv X pins σ H s → t1 D R σ H → wpAny (model X.prog X.w) X.A (exec c1 X.env) (SP X pins D) (XE X pins σ R) s)
    (hb : ∀ (a C : Addr), C ∈ Cs → PSs (X.inSuite a fun _ _ => False) (b₀ :: suite) (tb C)) (hd : (x == ("__debug__" : Str)) = false := by decide)
    (hf : X.fn n = true ∨ X.env.scope.names.lookup n = some .local := by first | exact .inl rfl | exact .inr rfl | assumption) :
    PS X (.Try [c1] [.ExceptHandler (some (.Name x np)) (some n) (b₀ :: suite) hpos] [] [] pos) (tTry1 t1 i Cs tb) := by
  intro pins s σ H D I h
  refine wpAny_Try_except (wpAny_mono (?_ : wpAny (model X.prog X.w) X.A (execs [c1] X.env) (SP X pins D) (XE X pins σ (fun C H2 => C ∈ Cs ∧ ∀ a, H2 a = none → tb C (goneE i D) (σ.set i (some (.ref a))) (upd H2 a (.ext (excP a C))))) s) (fun f s1 q => ?_) fun e s1 q => ?_)
  · refine wpAny_execs_cons (wpAny_mono (h1 pins s σ H D _ I h) (fun f s2 q => ?_) fun _ _ z => z)
    cases f with
    | next => exact wpAny_execs_nil q
    | ret v => exact q
    | brk => exact q
    | cont => exact q
  · cases f with
    | next => exact wpAny_execs_nil q
    | ret v => exact q
    | brk => exact q
    | cont => exact q
  · obtain ⟨a, C, H', rfl, S, hC, ht⟩ := q
    have hn : H' a = none := by
      obtain ⟨t, B, _, _, hH, _⟩ := S
      exact hH
    exact wp_catch hstk hfm hN hi hl hg hm hD (hsub C hC) S (hb a C hC) (ht a hn) hd hf
end
end L2
set_option maxHeartbeats 4000000
namespace L2
open PySem PySem.Spec PyProof.Rows PySem.W
def rIsE (K : PySem.W.Frag) (C : Addr) : List V → Hp → VK → Prop := fun xs H Q => ∃ (a : Addr) (c : V) (b : Bool), xs = [.ref a, c] ∧ H a = some (.ext (excP a C)) ∧
    ((∃ D, c = .ref D ∧ kitOne K (.ref C) (.ref D) = some b) ∨ (∃ T, c = .ty T ∧ kitOne K (.ref C) (.type T) = some b) ∨ (∃ (tp : Addr) (ds : List Addr), c = .ref tp ∧ H tp = some (.tup (ds.map V.ref)) ∧ kitAny K (.ref C) (ds.map Value.ref) = some b)) ∧ Q (.bl b) H
def tIs (K : PySem.W.Frag) (C : Addr) (j : Nat) (c : TE) : TE := tCB (rIsE K C) (tCons (tVar j) (tCons c tNil))
def tRefs : List Addr → TA
  | [] => tNil
  | d :: ds => tCons (tC (.ref d)) (tRefs ds)
theorem tRefs_run : ∀ (ds : List Addr) {σ : St} {H : Hp} {Q : List V → Hp → Prop}, Q (ds.map V.ref) H → tRefs ds σ H Q
  | [], _, _, _, h => h
  | d :: ds, _, _, _, h => tRefs_run ds h
structure KC (K : PySem.W.Frag) (mg : Str → Option Value) (C1 C2 : Addr) (ds : List Addr) : Prop where
  m1 : mg "Full" = some (.ref C1)
  m2 : mg "NoKey" = some (.ref C2)
  a1 : kitOne K (.ref C1) (.ref C1) = some true
  a2 : kitOne K (.ref C1) (.ref C2) = some false
  a3 : kitAny K (.ref C1) (ds.map Value.ref) = some false
  a4 : kitOne K (.ref C1) (.type "ValueError") = some true
  b1 : kitOne K (.ref C2) (.ref C1) = some false
  b2 : kitOne K (.ref C2) (.ref C2) = some true
  b3 : kitAny K (.ref C2) (ds.map Value.ref) = some false
  b4 : kitOne K (.ref C2) (.type "ValueError") = some true
  dl : ds.length ≤ 1000
end L2
set_option maxHeartbeats 4000000
namespace L2
open PySem PySem.Spec PyProof.Rows PySem.W
section
variable {K : PySem.W.Frag} {G H : Hp}
theorem Slots.setNo {v : Option V} {σ : St} {ρ : SEnv} {O : List Addr} (s : Slots K G H σ ρ O) : ∀ {j : Nat}, ρ[j]? = some .no → Slots K G H (σ.set j v) ρ O := by
  induction s with
  | nil => intro j h; simp at h
  | no s ih =>
    intro j h
    cases j with
    | zero => exact .no s
    | succ j => exact .no (ih (by simpa using h))
  | sh r s ih =>
    intro j h
    cases j with
    | zero => simp at h
    | succ j => exact .sh r (ih (by simpa using h))
  | ow e r s ih =>
    intro j h
    cases j with
    | zero => simp at h
    | succ j => exact .ow e r (ih (by simpa using h))
  | on e r s ih =>
    intro j h
    cases j with
    | zero => simp at h
    | succ j => exact .on e r (ih (by simpa using h))
  | tr e s ih =>
    intro j h
    cases j with
    | zero => simp at h
    | succ j => exact .tr e (ih (by simpa using h))
theorem StR.setNo {H0 : Hp} {O0 : List Addr} {σ : St} {ρ : SEnv} {v : Option V} (t : StR K H0 O0 G σ H ρ) {j : Nat} (h : ρ[j]? = some .no) : StR K H0 O0 G (σ.set j v) H ρ := by
  obtain ⟨O, s0, n, nd, g, sl⟩ := t.ex
  exact ⟨O, s0, n, nd, g, sl.setNo h⟩
end
def tKindSuite3 (K : PySem.W.Frag) (ik j : Nat) (D1 : Addr) (ds : List Addr) (C : Addr) : TS :=
  tSeq (tAsg (tLst (tCons (tIs K C j (tC (.ref D1))) (tCons (tIs K C j (tTup (tRefs ds))) tNil))) (gName ik))
    (tDrop (tBM K "list" rAppend (tVar ik) (tCons (tIs K C j (tC (.ty "ValueError"))) tNil)))
theorem suite_run3 {K : PySem.W.Frag} {ik j : Nat} {D1 : Addr} {ds : List Addr} {C : Addr} {r1 r3 : Bool} (k1 : kitOne K (.ref C) (.ref D1) = some r1) (k3 : kitAny K (.ref C) (ds.map Value.ref) = some r3) (k4 : kitOne K (.ref C) (.type "ValueError") = some true)
    (hds : ds.length ≤ 1000) (hne : ik ≠ j) {σ : St} {H : Hp} {a : Addr} {D : Ends} (hj : σ[j]? = some (some (.ref a))) (hik : ik < σ.length) (ha : H a = some (.ext (excP a C)))
    (h : ∀ (p : Addr) (H' : Hp), Same H H' → H p = none → H' p = some (.lst [.bl r1, .bl r3, .bl true]) → D.nx (σ.set ik (some (.ref p))) H') : tKindSuite3 K ik j D1 ds C D σ H := by
  refine ⟨_, hj, a, _, r1, rfl, ha, .inl ⟨D1, rfl, k1⟩, ?_⟩
  refine ⟨_, hj, tRefs_run ds ⟨by rw [List.length_map]; exact Nat.le_trans hds (by decide), fun tp htp => ?_⟩⟩
  have na : a ≠ tp := fun z => by rw [z, htp] at ha; cases ha
  have ha1 : (upd H tp (.tup (ds.map V.ref))) a = some (.ext (excP a C)) := by rw [upd_ne na]; exact ha
  refine ⟨a, _, r3, rfl, ha1, .inr (.inr ⟨tp, ds, rfl, upd_same, k3⟩), ?_⟩
  refine ⟨by show 2 ≤ sizeLine; decide, fun p hp => ?_⟩
  have s1 : Same H (upd H tp (.tup (ds.map V.ref))) := Same.new htp
  have s2 : Same (upd H tp (.tup (ds.map V.ref))) (upd (upd H tp (.tup (ds.map V.ref))) p (.lst [.bl r1, .bl r3])) := Same.new hp
  have hpn : H p = none := s1.free hp
  have npa : a ≠ p := fun z => by rw [z, hp] at ha1; cases ha1
  refine ⟨_, List.getElem?_set_self hik, .inl ⟨rfl, _, SqL.of upd_same⟩, _, by rw [List.getElem?_set_ne hne]; exact hj, a, _, true, rfl, (by rw [upd_ne npa]; exact ha1), .inr (.inl ⟨_, rfl, k4⟩), p, _, _, rfl, rfl, upd_same, by show 2 < sizeLine; decide, ?_⟩
  refine h p _ (fun b o e => ?_) hpn upd_same
  have nb : b ≠ p := fun z => by rw [z, hpn] at e; cases e
  rw [upd_ne nb]
  exact s2 b o (s1 b o e)
structure KC3 (K : PySem.W.Frag) (mg : Str → Option Value) (x1 : Str) (C1 : Addr) (ds : List Addr) : Prop where
  m1 : mg x1 = some (.ref C1)
  a1 : kitOne K (.ref C1) (.ref C1) = some true
  a3 : kitAny K (.ref C1) (ds.map Value.ref) = some false
  a4 : kitOne K (.ref C1) (.type "ValueError") = some true
  dl : ds.length ≤ 1000
def isNo : Option Sl → Bool
  | some .no => true
  | _ => false
theorem isNo_eq {s : Option Sl} (h : isNo s = true) : s = some .no := by
  unfold isNo at h
  split at h
  · rfl
  · cases h
def pTryA (iF iK j : Nat) (x1 : Str) (r : PAs) (fp : List D → Option D) (gp : List D → Option Str) : PSt := fun ρ => if isNo ρ[j]? = true ∧ iK ≠ j ∧ iF ≠ j ∧ iK < ρ.length then (r (masked ρ)).bind fun as =>
    (match fp as with
      | some d => some (.nx (ρ.set iF (.sh d)))
      | none => (gp as).bind fun x => if x = x1 then some (.nx (ρ.set iK (.sh (.list [.bool true, .bool false, .bool true])))) else none)
  else none
theorem tryA_pu {iF iK j n : Nat} {r : PAs} {K : PySem.W.Frag} {mg : Str → Option Value} {fp : List D → Option D} {gp : List D → Option Str} {x1 : Str} {C1 : Addr} {ds : List Addr} {ta : TA} (kc : KC3 K mg x1 C1 ds)
    (h1 : PuA K ta r) (t1 : Takes n fp) (t1' : Takes n gp) : PuS K (tTry1 (tSetX iF (spF K n fp) (spX K n mg gp) ta) j [C1] (tKindSuite3 K iK j C1 ds)) (pTryA iF iK j x1 r fp gp) := by
  intro H0 O0 G σ H ρ o E ok st hf q
  unfold pTryA at hf
  by_cases hcc : isNo ρ[j]? = true ∧ iK ≠ j ∧ iF ≠ j ∧ iK < ρ.length
  case neg => rw [if_neg hcc] at hf; cases hf
  rw [if_pos hcc] at hf
  obtain ⟨hj', hne, hneF, hik⟩ := hcc
  have hj := isNo_eq hj'
  obtain ⟨as, has, hf⟩ := bind_some' hf
  obtain ⟨O, s0, nn, nd, g, sl⟩ := st.ex
  have okA := okAll ok s0 sl
  have hlen := sl.len
  have hjl : j < ρ.length := (List.getElem?_eq_some_iff.mp hj).1
  refine h1 (O0 ++ O) σ H (masked ρ) as _ okA sl.mask has fun vs H1 s1 r1 => ?_
  cases hm : fp as with
  | some d =>
    rw [hm] at hf
    cases hf
    refine .inl ⟨by rw [r1.length]; exact t1 _ _ hm, O0 ++ O, as, d, okA.mono s1, r1, hm, fun v H2 s2 rv => ?_⟩
    have s12 := s1.trans s2
    have sv : StV K H0 O0 G σ H2 ρ v (.sh d) := ⟨O, [], s0.trans s12, nn, nd, g.trans (hid_same s12), sl.mono (hid_same s12) fun a _ o e => s12 a o e, rfl, rv⟩
    exact q _ H2 (sv.set iF)
  | none =>
    rw [hm] at hf
    obtain ⟨x, ex, hf⟩ := bind_some' hf
    by_cases hx : x = x1
    case neg => rw [if_neg hx] at hf; cases hf
    rw [if_pos hx] at hf
    cases hf
    subst hx
    refine .inr ⟨by rw [r1.length]; exact t1' _ _ ex, O0 ++ O, as, x, okA.mono s1, r1, ex, fun H4 s4 C hC => ⟨C, rfl, ?_⟩⟩
    have eC := hC.symm.trans kc.m1
    cases eC
    refine ⟨.head _, fun a ha => ?_⟩
    have sa : Same H4 (upd H4 a (.ext (excP a C1))) := Same.new ha
    refine suite_run3 kc.a1 kc.a3 kc.a4 kc.dl hne (List.getElem?_set_self (by rw [hlen]; exact hjl)) (by rw [List.length_set, hlen]; exact hik) upd_same fun p H' s' hp hH' => ?_
    have sAll : Same H H' := s1.trans (s4.trans (sa.trans s'))
    have hpn : H p = none := (s1.trans (s4.trans sa)).free hp
    have na : p ∉ O0 ++ O := okA.fresh hpn
    have rp : Rep K (hid (O0 ++ ([] ++ O)) H') (.ref p) (.list [.bool true, .bool false, .bool true]) := .lst (SqL.of (by rw [List.nil_append, hid_out na]; exact hH')) (.cons (.bl true) (.cons (.bl false) (.cons (.bl true) .nil)))
    have sv : StV K H0 O0 G (σ.set j (some (.ref a))) H' ρ (.ref p) (.sh (.list [.bool true, .bool false, .bool true])) :=
      ⟨O, [], s0.trans sAll, nn, nd, g.trans (hid_same sAll), (sl.mono (hid_same sAll) fun a _ o e => sAll a o e).setNo hj, rfl, rp⟩
    exact q _ H' ((sv.set iK).setNo (by rw [List.getElem?_set_ne hne]; exact hj))
theorem js_tryA (iF iK j : Nat) {n k : Nat} {r : PAs} {X : Cx} {K : PySem.W.Frag} {mg : Str → Option Value} {fp : List D → Option D} {gp : List D → Option Str} {x1 : Str} {C1 Dc : Addr} {ds : List Addr} {ta : TA} {e : Expr} {es : List Expr} {f x nm y : Str} {ps : List Str}
    {p cpos pos' apos np hpos pos : Pos} {b₀ : Stmt} {suite : List Stmt} (kc : KC3 K mg x1 C1 ds)
    (hstk : X.stack = X.env :: X.outer) (hex : X.ex = []) (hfm : X.env.frame = some X.env.locals) (hN : X.N.Nodup) (hi : X.N[j]? = some nm) (hl : X.env.kindOf nm = some .local) (hg : Gl X x) (hm : X.mg x = some (.ref Dc)) (hD : excIn X.K Dc vmro "ValueError.__new__" = true)
    (hsub : ∀ C ∈ [C1], mroIn X.K C (.ref Dc) = some true) (hr : Room k X.A)
    (A1 : Callee X.prog X.w X.K X.mg X.base k f ps (spF K n fp)) (B1 : CalleeX X.prog X.w X.K X.mg X.base k f ps (spX K n mg gp)) (hg1 : Gl X f) (ja : JA X.nox K (e :: es) ta r) (t1 : Takes n fp) (t1' : Takes n gp)
    (hiF : X.N[iF]? = some y) (hy : Loc X.env.scope y)
    (hb : ∀ (a C : Addr), C ∈ [C1] → PSs (X.inSuite a fun _ _ => False) (b₀ :: suite) (tKindSuite3 K iK j C1 ds C))
    (d1 : (f == ("__debug__" : Str)) = false := by decide)
    (z1 : starEach (e :: es) X.env = (false, eval e X.env) :: starEach es X.env := by rfl) (z2 : (backTo cpos (starEach es X.env)).any (·.1) = false := by rfl) (z3 : swapsWith (.Call (.Name f p) (e :: es) [] cpos) (some (.Name y pos')) apos.line X.env = pure false := by rfl)
    (hfn : X.fn y = true ∨ X.env.scope.names.lookup y = some .local := by first | exact .inl rfl | exact .inr rfl | assumption)
    (hd : (x == ("__debug__" : Str)) = false := by decide) (hf : X.fn nm = true ∨ X.env.scope.names.lookup nm = some .local := by first | exact .inl rfl | exact .inr rfl | assumption) :
    JS X K (.Try [.Assign [.Name y pos'] (.Call (.Name f p) (e :: es) [] cpos) apos] [.ExceptHandler (some (.Name x np)) (some nm) (b₀ :: suite) hpos] [] [] pos)
      (tTry1 (tSetX iF (spF K n fp) (spX K n mg gp) ta) j [C1] (tKindSuite3 K iK j C1 ds)) (pTryA iF iK j x1 r fp gp) :=
  ⟨ps_try1 hstk hfm hN hi hl hg hm hD hsub (wp_setX A1 B1 hex hr hg1 ja.pe hN hiF hy d1 z1 z2 z3 hfn) hb hd hf, tryA_pu kc ja.pu t1 t1'⟩
end L2
set_option maxHeartbeats 4000000
namespace L2
open PySem PySem.Spec PyProof.Rows PySem.W
section
variable {P : Program} {w : World} {K : PySem.W.Frag} {mg : Str → Option Value} {base : Heap} {N : List Str} {qual : Str} {scope : Scope} {f : Addr} {cd : Value} {A : Around} {outer : List Env} {s : Shared} {H : Hp} {E : XK}
theorem cxe_pass {E' : XK} (hE : ∀ cls H', E' cls none H' → E cls none H') : Passes (CXE P w) (cxOf (CXE P w) P w K mg base N qual scope f cd A outer s H E) E' := by
  intro pins σ H1 s1 e s2 I hx
  obtain ⟨a, t, cls, B, H', rfl, hos, hg, hfl, hst, hB1, hn, hH, he⟩ := hx
  show wpAny (model P w) (A.deeper (envOfC qual scope s.heap.objs.size f cd)) (leaving (envOfC qual scope s.heap.objs.size f cd) (.ref a)) _ _ _
  have un : Un (frs outer) [] H H1 s.heap s1.heap := I.base
  have fr : ∀ b, b ∈ frs (envOfC qual scope s.heap.objs.size f cd :: outer) → b = s.heap.objs.size ∨ b ∈ frs outer := fun b hb => by
    obtain ⟨env, he, hf⟩ := List.mem_filterMap.mp hb
    rcases List.mem_cons.mp he with rfl | he
    · exact .inl (Option.some.inj hf).symm
    · exact .inr (List.mem_filterMap.mpr ⟨env, he, hf⟩)
  have fr' : ∀ b, b ∈ frs outer → b ∈ frs (envOfC qual scope s.heap.objs.size f cd :: outer) := fun b hb => by
    obtain ⟨env, he, hf⟩ := List.mem_filterMap.mp hb
    exact List.mem_filterMap.mpr ⟨env, .tail _ he, hf⟩
  have old : ∀ b o, s.heap.get? b = some o → b ∉ frs outer → b ∉ frs (envOfC qual scope s.heap.objs.size f cd :: outer) := fun b o q n hb => by
    rcases fr b hb with z | z
    · subst z; exact absurd (Heap.lt_size q) (Nat.lt_irrefl _)
    · exact n z
  refine wpAny_leaves_onW (L := s.heap.objs.size) I.ok.frames rfl hfl fun h3 hfl3 hu3 => ?_
  refine ⟨a, t, cls, B, H', rfl, hos.trans I.os, hg, hfl3, fun h4 hB4 hu4 => ?_, fun b o q n hn' => hB1 b o (un.keep b o q hn' n (by simp)) (old b o q n) (un.free b o q hn' (by simp)), ?_, hH, hE cls H' he⟩
  · obtain ⟨u2, hok⟩ := hst h4 hB4 (hu3.trans hu4)
    refine ⟨⟨fun b o q hn' hb _ => u2.keep b o (un.keep b o q hn' hb (by simp)) (un.free b o q hn' (by simp)) (old b o q hb) (by simp), fun b o q hn' hb _ => ?_, fun b o q hn' _ => ?_, fun b o q _ => ?_, fun b xs q => u2.tups b xs (un.tups b xs q), fun b o u q => u2.frzs b o u (un.frzs b o u q), fun b ps q => ?_⟩, hok⟩
    · obtain ⟨sl, q1⟩ := un.slot b o q hn' hb (by simp)
      obtain ⟨sl2, q2⟩ := u2.slot b _ q1 (un.free b o q hn' (by simp)) (fr' b hb) (by simp)
      exact ⟨sl2, q2⟩
    · obtain ⟨o', q1⟩ := un.there b o q (by simp)
      exact u2.free b o' q1 (un.free b o q hn' (by simp)) (by simp)
    · obtain ⟨o', q1⟩ := un.there b o q (by simp)
      exact u2.there b o' q1 (by simp)
    · obtain ⟨m1, q1⟩ := un.tbls b ps q
      obtain ⟨m2, q2⟩ := u2.tbls b _ q1
      exact ⟨m1 ++ m2, by rw [q2, Array.append_assoc]⟩
  · cases q : s.heap.get? a with
    | none => rfl
    | some o =>
      obtain ⟨o', q1⟩ := un.there a o q (by simp)
      rw [hn] at q1
      cases q1
end
def tCallE (sp spx : Sp) (E' : XK) (t : TA) : TE := fun σ H Q => t σ H fun vs H1 => sp vs H1 Q E0 ∨ spx vs H1 (fun _ _ => False) E'
section
variable {X : Cx} {k : Nat} {x : Str} {ps : List Str} {sp spx : Sp} {e : Expr} {es : List Expr} {t : TA} {p pos : Pos} {E' : XK}
theorem pe_callE (C : Callee X.prog X.w X.K X.mg X.base k x ps sp) (CX : CalleeX X.prog X.w X.K X.mg X.base k x ps spx) (hp : Passes (CXE X.prog X.w) X E') (hr : Room k X.A) (hg : Gl X x) (ha : PA X (e :: es) t) (hdb : (x == ("__debug__" : Str)) = false := by decide)
    (he : starEach (e :: es) X.env = (false, eval e X.env) :: starEach es X.env := by rfl) (hpl : (backTo pos (starEach es X.env)).any (·.1) = false := by rfl) : PE X (.Call (.Name x p) (e :: es) [] pos) (tCallE sp spx E' t) := by
  intro pins s σ H Q I h
  obtain ⟨f, fd, F, m, kp, b, _⟩ := C.ex
  obtain ⟨f', fd', F', m', kp', b', _⟩ := CX.ex
  have e1 : f = f' := by
    have := m.symm.trans m'
    cases this
    rfl
  subst e1
  refine wpAny_Call_Name_kw (ld_glob I hg m ?_ hdb)
  refine PySem.W.callWith_K (h₀ := X.base) I.ok.mod.kin kp (thn (ha pos pins s σ H _ I h) fun us s1 ⟨vs, H1, I1, r, q⟩ => ⟨I1.kIn, ?_⟩) he hpl
  rcases q with q | q
  · exact run_fn (dvs := []) (ds := []) (E := E0) F hr b .nil pass0 I1 r (by rw [List.append_nil]; exact q)
  · have := run_fn (dvs := []) (ds := []) (E := E') F' hr b' .nil hp I1 r (by rw [List.append_nil]; exact q)
    exact wpAny_mono this (fun v s2 ⟨_, _, _, _, z⟩ => z.elim) fun _ _ z => z
end
end L2
set_option maxHeartbeats 4000000
namespace L2
open PySem PySem.Spec PyProof.Rows PySem.W
abbrev PXe := PEnv → Option Str
def PuEX (K : PySem.W.Frag) (R : Str → Hp → Prop) (te : TE) (g : PXe) : Prop := ∀ (O : List Addr) (σ : St) (H : Hp) (ρ : PEnv) (C : Str) (Q : VK), OkO O H → EnvR K (hid O H) σ ρ → g ρ = some C → (∀ H', Same H H' → R C H') → te σ H Q
structure JLX (X : Cx) (K : PySem.W.Frag) (R : Str → Hp → Prop) (e : Expr) (te : TE) (f : PAs) (g : PXe) : Prop where
  pe : PE X e te
  pu : PuL K te f
  px : PuEX K R te g
structure JEX (X : Cx) (K : PySem.W.Frag) (R : Str → Hp → Prop) (e : Expr) (te : TE) (f : PF) (g : PXe) : Prop where
  pe : PE X e te
  pu : PuE K te f
  px : PuEX K R te g
def gOf (r : PAs) (g : List D → Option Str) : PXe := fun ρ => (r ρ).bind g
section
variable {P : Program} {w : World} {K : PySem.W.Frag} {mg : Str → Option Value} {base : Heap} {N : List Str} {qual : Str} {scope : Scope} {f : Addr} {cd : Value} {A : Around} {outer : List Env} {s : Shared} {H : Hp} {E : XK}
  {k n : Nat} {x : Str} {ps : List Str} {e : Expr} {es : List Expr} {t : TA} {r : PAs} {p pos : Pos} {g : List D → Option Str}
theorem jex_call {fl : List D → Option D} (C : Callee P w K mg base k x ps (spF K n fl)) (CX : CalleeX P w K mg base k x ps (spX K n mg g)) (hf : Takes n fl) (hg2 : Takes n g)
    (hr : Room k (A.deeper (envOfC qual scope s.heap.objs.size f cd))) (hg : Gl (cxOf (CXE P w) P w K mg base N qual scope f cd A outer s H E) x) (ha : JA (cxOf (CXE P w) P w K mg base N qual scope f cd A outer s H E) K (e :: es) t r) (hdb : (x == ("__debug__" : Str)) = false := by decide)
    (he : starEach (e :: es) (cxOf (CXE P w) P w K mg base N qual scope f cd A outer s H E).env = (false, eval e (cxOf (CXE P w) P w K mg base N qual scope f cd A outer s H E).env) :: starEach es (cxOf (CXE P w) P w K mg base N qual scope f cd A outer s H E).env := by rfl)
    (hpl : (backTo pos (starEach es (cxOf (CXE P w) P w K mg base N qual scope f cd A outer s H E).env)).any (·.1) = false := by rfl) :
    JEX (cxOf (CXE P w) P w K mg base N qual scope f cd A outer s H E) K (fun y H' => ∀ C, mg y = some (.ref C) → E (.ref C) none H') (.Call (.Name x p) (e :: es) [] pos) (tCallE (spF K n fl) (spX K n mg g) E t) (pCall fl r) (gOf r g) := by
  refine ⟨pe_callE (X := cxOf (CXE P w) P w K mg base N qual scope f cd A outer s H E) C CX (cxe_pass fun _ _ h => h) hr hg ha.pe hdb he hpl, ?_, ?_⟩
  · intro O σ H ρ d Q ok er h q
    obtain ⟨ds, e1, h⟩ := bind_some' h
    exact ha.pu O σ H ρ ds _ ok er e1 fun vs H1 s1 r1 => .inl ⟨by rw [r1.length]; exact hf ds d h, O, ds, d, ok.mono s1, r1, h, fun v H' s' rv => q v H' (s1.trans s') rv⟩
  · intro O σ H ρ C Q ok er h q
    obtain ⟨ds, e1, h⟩ := bind_some' h
    exact ha.pu O σ H ρ ds _ ok er e1 fun vs H1 s1 r1 => .inr ⟨by rw [r1.length]; exact hg2 ds C h, O, ds, C, ok.mono s1, r1, h, fun H' s' => q H' (s1.trans s')⟩
end
section
variable {X : Cx} {K : PySem.W.Frag} {R : Str → Hp → Prop} {st : Stmt} {te : TE} {g : PXe}
theorem jx_retX {e : Expr} {f : PF} {pos : Pos} (he : JEX X K R e te f g) : JX X K R (.Return (some e) pos) (tRet te) (pRet f) (fun ρ => g (full ρ)) := ⟨ps_ret he.pe, (by
  intro H0 O0 G σ H ρ o E ok s hf q
  obtain ⟨d, e1, hf⟩ := bind_some' hf
  cases hf
  have ⟨o1, e2⟩ := s.envF ok
  exact he.pu O0 σ H (full ρ) d _ o1 e2 e1 fun v H' s' r => q v H' (s.same.trans s') r), by
  intro H0 O0 Gh σ H ρ C E ok s hf q
  have ⟨o1, e2⟩ := s.envF ok
  exact he.px O0 σ H (full ρ) C _ o1 e2 hf fun H' s' => q σ H' ρ (s.grow s')⟩
end
end L2
set_option maxHeartbeats 4000000
namespace L2
open PySem PySem.Spec PyProof.Rows PySem.W
theorem takesX (n m : Nat) (G : PEx) : Takes n (runX n m G) := fun ds a h => by
  unfold runX at h
  by_cases hc : ds.length = n
  · exact hc
  · rw [if_neg hc] at h; cases h
structure JAX (X : Cx) (K : PySem.W.Frag) (R : Str → Hp → Prop) (es : List Expr) (t : TA) (f : PAs) (g : PXe) : Prop where
  pe : PA X es t
  pu : PuA K t f
  px : ∀ (O : List Addr) (σ : St) (H : Hp) (ρ : PEnv) (C : Str) (Q : List V → Hp → Prop), OkO O H → EnvR K (hid O H) σ ρ → g ρ = some C → (∀ H', Same H H' → R C H') → t σ H Q
section
variable {X : Cx} {K : PySem.W.Frag} {R : Str → Hp → Prop}
end
end L2
namespace L2
open PySem PySem.Spec PyProof.Rows
section
variable {κ : Type} [DecidableEq κ]
end
section
variable {P : Program} {w : World} {H : Hp} {h : Heap} {a : Addr}
end
section
variable {X : Cx} {pins : List (Addr × Obj)} {σ : St} {H : Hp} {s : Shared} {a : Addr} {y v : V} {u r : Value} {o : Option V} {A : Around} {E : Value → Shared → Prop}
end
section
variable {X : Cx} {pins : List (Addr × Obj)} {σ : St} {H : Hp} {s : Shared} {a : Addr} {kvs : List (Key × V)} {k : Key} {u : Value} {A : Around} {E : Value → Shared → Prop}
end
section
variable {X : Cx} {o i e value : Expr} {pos pos' tpos : Pos} {td ty tv : TE}
end
section
variable {X : Cx} {pos : Pos}
end
structure M1 (X : Cx) (o : Expr) (m : Str) (apos : Pos) (e : Expr) (cpos : Pos) : Prop where
  base : attributeBase o m X.env (eval o X.env) = eval o X.env
  few : ((backTo cpos (starEach [e] X.env)).all (fun x => !x.1) && (backToKw cpos (keywordEach [] X.env)).all (fun x => x.1.isSome)
    && decide (([e] : List Expr).length + ([] : List Keyword).length + (if ([] : List Keyword).isEmpty then 0 else 1) < 30)) = true
  line : (apos.endLine == cpos.line) = true
  trees : backTo cpos (starEach [e] X.env) = [(false, eval e X.env)]
structure M2 (X : Cx) (o : Expr) (m : Str) (apos : Pos) (e f : Expr) (cpos : Pos) : Prop where
  base : attributeBase o m X.env (eval o X.env) = eval o X.env
  few : ((backTo cpos (starEach [e, f] X.env)).all (fun x => !x.1) && (backToKw cpos (keywordEach [] X.env)).all (fun x => x.1.isSome)
    && decide (([e, f] : List Expr).length + ([] : List Keyword).length + (if ([] : List Keyword).isEmpty then 0 else 1) < 30)) = true
  line : (apos.endLine == cpos.line) = true
  trees : backTo cpos (starEach [e, f] X.env) = [(false, eval e X.env), (false, eval f X.env)]
section
variable {X : Cx} {pins : List (Addr × Obj)} {σ : St} {H : Hp} {s : Shared} {a : Addr} {y d : V} {u r : Value} {o : Option V} {A : Around} {E : Value → Shared → Prop}
end
section
variable {X : Cx} {o e f : Expr} {apos cpos : Pos} {td ty tx : TE}
end
section
variable {X : Cx} {pins : List (Addr × Obj)} {σ : St} {H : Hp} {s : Shared} {a : Addr} {kvs : List (Key × V)} {A : Around} {E : Value → Shared → Prop}
end
section
variable {X : Cx} {pins : List (Addr × Obj)} {σ : St} {H : Hp} {s : Shared} {a : Addr} {y : V} {u : Value} {A : Around} {E : Value → Shared → Prop}
end
end L2
set_option maxHeartbeats 4000000
namespace L2
open PySem PySem.Spec PyProof.Rows
section
variable {X : Cx} {K : PySem.W.Frag}
end
end L2
set_option maxHeartbeats 4000000
namespace LT
open PySem PySem.StrLaws PySem.Builtin.Str L2
def strOf (cs : List Nat) : Str := ⟨cs.toArray⟩
theorem cps_strOf (cs : List Nat) : (strOf cs).cps.toList = cs := by simp [strOf]
theorem strOf_eq {x : Str} {cs : List Nat} (h : x.cps.toList = cs) : x = strOf cs := by
  subst h
  cases x
  simp [strOf]
theorem len_strOf (cs : List Nat) : (strOf cs).length = cs.length := by
  show cs.toArray.size = _
  simp
theorem app_strOf (a b : List Nat) : strOf a ++ strOf b = strOf (a ++ b) := by
  apply strOf_eq
  rw [Str.cps_append, Array.toList_append, cps_strOf, cps_strOf]
def jn (y : List Nat) : List (List Nat) → List Nat
  | [] => []
  | [w] => w
  | w :: r => w ++ (y ++ jn y r)
theorem jn_cons (y w w' : List Nat) (r : List (List Nat)) : jn y (w :: w' :: r) = w ++ (y ++ jn y (w' :: r)) := rfl
theorem join_strOf (y : List Nat) (ws : List (List Nat)) : Txt.join (strOf y) (ws.map strOf) = strOf (jn y ws) := by
  show glued _ _ = _
  rw [glued_eq_join]
  induction ws with
  | nil => rfl
  | cons w r ih =>
    cases r with
    | nil => rfl
    | cons w' r =>
      show strOf w ++ strOf y ++ Str.join (strOf y) ((w' :: r).map strOf) = _
      rw [ih, app_strOf, app_strOf, jn_cons, List.append_assoc]
structure Mark (y : List Nat) (j c : Nat) : Prop where
  at_ : y[j]? = some c
  first : ∀ i, i < j → y[i]? ≠ some c
end LT
set_option maxHeartbeats 4000000
namespace TX
open PySem L2 LL
def b_are_figures : PSt := (pRet (pAnd (pChain dLe dLe (pCon (.int 1)) (pCall gLenS (pCons (pVar 0) pNil)) (pCon (.int 60))) (pCall gAll (pCons (pOfL (pComp (pItS (pVar 0)) (bd1 0) pTrue (pOp (dInS false) (pVar 0) (pCon (.str "0123456789"))) 1 [])) pNil))))
def m_are_figures : List D → Option D := runF 1 1 b_are_figures
def b_is_number_text : PSt := (pSq (pIfS (pTest (pOp dEq (pVar 0) (pCon (.str "0"))))
      (pRet (pCon (.bool true))) pNx)
    (pSq (pSet 1 (vS (pIf (pTest (pOp dStarts (pVar 0) (pCon (.str "-")))) (pSlS (pVar 0) (pPart (pCon (.int 1))) pNoPart) (pVar 0))))
    (pRet (pAnd (pCall m_are_figures (pCons (pVar 1) pNil)) (pNot (pOp dStarts (pVar 1) (pCon (.str "0"))))))))
def m_is_number_text : List D → Option D := runF 1 2 b_is_number_text
def b_read_number : PSt := (pSq (pIfS (pOrT (pNotT (pTest (pIsi "str" (pVar 0)))) (pNotT (pTest (pCall m_is_number_text (pCons (pVar 0) pNil)))))
      pNever pNx)
    (pRet (pCall gIntS (pCons (pVar 0) pNil))))
def m_read_number : List D → Option D := runF 1 1 b_read_number
def gx_read_number : PEx := (gSq (pIfS (pOrT (pNotT (pTest (pIsi "str" (pVar 0)))) (pNotT (pTest (pCall m_is_number_text (pCons (pVar 0) pNil)))))
      pNever pNx) (gIf (pOrT (pNotT (pTest (pIsi "str" (pVar 0)))) (pNotT (pTest (pCall m_is_number_text (pCons (pVar 0) pNil))))) (gRaise "NoText") gNo)
    gNo)
def mx_read_number : List D → Option Str := runX 1 1 gx_read_number
def l__law_number_1 : PSt := (pSq (pIfS (pTest (pOp dLt (pOp dFind (pCon (.str "0123456789")) (pVar 3)) (pCon (.int 0))))
        (pRet (pCon .none)) pNx)
      (pSet 2 (vS (pOp dAdd (pOp dMul (pVar 2) (pCon (.int 10))) (pOp dFind (pCon (.str "0123456789")) (pVar 3))))))
def b__law_number : PSt := (pSq (pSet 1 (vS (pVar 0)))
    (pSq (pIfS (pTest (pOp dEq (pSlS (pVar 0) pNoPart (pPart (pCon (.int 1)))) (pCon (.str "-"))))
      (pSet 1 (vS (pSlS (pVar 0) (pPart (pCon (.int 1))) pNoPart))) pNx)
    (pSq (pIfS (pOrT (pTest (pOp dLt (pCall gLenS (pCons (pVar 1) pNil)) (pCon (.int 1)))) (pTest (pOp dGt (pCall gLenS (pCons (pVar 1) pNil)) (pCon (.int 60)))))
      (pRet (pCon .none)) pNx)
    (pSq (pSet 2 (vS (pCon (.int 0))))
    (pSq (pFor (pItS (pVar 1)) (bs1 3) l__law_number_1)
    (pSq (pIfS (pAndT (pTest (pOp dEq (pOp dIx (pVar 1) (pCon (.int 0))) (pCon (.str "0")))) (pTest (pOp dNe (pVar 0) (pCon (.str "0")))))
      (pRet (pCon .none)) pNx)
    (pRet (pOp dIx (pOfL (pLst (pCons (pVar 2) (pCons (pUn dNeg (pVar 2)) pNil)))) (pCall gInt (pCons (pOp dNe (pVar 1) (pVar 0)) pNil))))))))))
def m__law_number : List D → Option D := runF 1 4 b__law_number
end TX
set_option maxHeartbeats 4000000
namespace L2
open PySem PySem.Spec PyProof.Rows
section
variable {X : Cx} {K : PySem.W.Frag}
def rIns : V → List V → Hp → VK → Prop := fun x vs H Q => ∃ l xs k y, x = .ref l ∧ vs = [.int k, y] ∧ H l = some (.lst xs) ∧ 0 ≤ k ∧ k.toNat ≤ xs.length ∧ xs.length < sizeLine ∧ Q .non (upd H l (.lst (xs.take k.toNat ++ y :: xs.drop k.toNat)))
theorem Vals.take' : ∀ {xs : List V} {us : List Value} (k : Nat), Vals xs us → Vals (xs.take k) (us.take k)
  | _, _, 0, _ => by simp; exact .nil
  | _, _, k + 1, .nil => .nil
  | _, _, k + 1, .cons a b => .cons a (Vals.take' k b)
theorem Vals.drop' : ∀ {xs : List V} {us : List Value} (k : Nat), Vals xs us → Vals (xs.drop k) (us.drop k)
  | _, _, 0, h => h
  | _, _, k + 1, .nil => .nil
  | _, _, k + 1, .cons a b => Vals.drop' k b
theorem mt_ins : MtM X "list.insert" rIns := by
  intro pins s σ H x vs v us Q I rx rv h
  obtain ⟨l, xs, k, y, rfl, rfl, hH, hk, hkl, hz, q⟩ := h
  cases rx
  obtain ⟨u, u2, rfl, ru, ru2⟩ := rv.two
  obtain ⟨t, rfl⟩ := ru
  obtain ⟨z, its, n, r, hl, e⟩ := I.lstM hH
  have hsz : sizeLine = 16777216 := sizeLine_eq
  have ff : Builtin.List.listFitsIndex k = true := by
    unfold Builtin.List.listFitsIndex
    simp only [Bool.and_eq_true, decide_eq_true_eq]
    omega
  refine call_meets F.slot_list_insert ⟨_, e, rfl⟩ F.entry_list_insert (F.args_list_insert_3 _ _ _)
    (AutoSeq1.list_insert_list_int_val_1 l its.toArray n k t u2 (by rw [ff]; simp) (by rw [List.size_toArray]; omega)) ⟨e, ?_⟩
  refine ⟨.non, _, I.lset (its' := its.take k.toNat ++ u2 :: its.drop k.toNat) hH e ?_ ((r.take' _).append (.cons ru2 (r.drop' _))) ?_, rfl, q⟩
  · have h1 : ¬ k < 0 := by omega
    have h2 : min k.toNat its.toArray.size = k.toNat := by rw [List.size_toArray]; omega
    simp only [h1, if_false, h2]
    apply Array.toList_inj.mp
    simp
    exact List.take_of_length_le (by rw [List.length_drop]; exact Nat.le_refl _)
  · rw [List.length_append, List.length_cons, List.length_take, List.length_drop]
    omega
def pInsT (i : Nat) (fk fe : PF) : PSt := fun ρ => (fk (full ρ)).bind fun kd => (asI kd).bind fun k => (fe (full ρ)).bind fun yd => (ρ[i]?).bind fun s' => (asOw s').bind fun ds =>
  match yd with
  | .str t => if 0 ≤ k ∧ k.toNat ≤ ds.length ∧ fits ds.length = true then some (.nx (ρ.set i (.ow (ds.take k.toNat ++ .str t :: ds.drop k.toNat)))) else none
  | _ => none
theorem RepAll.take' {H : Hp} : ∀ {xs : List V} {ds : List D} (k : Nat), RepAll K H xs ds → RepAll K H (xs.take k) (ds.take k)
  | _, _, 0, _ => by simp; exact .nil
  | _, _, k + 1, .nil => .nil
  | _, _, k + 1, .cons a b => .cons a (RepAll.take' k b)
theorem RepAll.drop' {H : Hp} : ∀ {xs : List V} {ds : List D} (k : Nat), RepAll K H xs ds → RepAll K H (xs.drop k) (ds.drop k)
  | _, _, 0, h => h
  | _, _, k + 1, .nil => .nil
  | _, _, k + 1, .cons a b => RepAll.drop' k b
theorem js_insT (i : Nat) {x : Str} {ek e : Expr} {tk te : TE} {fk f : PF} {p apos cpos pos : Pos} (hk : JE X K ek tk fk) (he : JE X K e te f) (hK : X.K = K) (hN : X.N[i]? = some x := by rfl) (hv : Vis X.env.scope x := by first | exact Or.inl rfl | exact Or.inr (Or.inl rfl) | exact Or.inr (Or.inr rfl)) (hd : (x == ("__debug__" : Str)) = false := by decide)
    (hcd : (x == ("__classdict__" : Str)) = false := by decide) (hbase : attributeBase (.Name x p) "insert" X.env (eval (.Name x p) X.env) = eval (.Name x p) X.env := by rfl)
    (hfew : ((backTo cpos (starEach [ek, e] X.env)).all (fun x => !x.1) && (backToKw cpos (keywordEach [] X.env)).all (fun x => x.1.isSome)
      && decide ([ek, e].length + ([] : List Keyword).length + (if ([] : List Keyword).isEmpty then 0 else 1) < 30)) = true := by rfl)
    (hline : (apos.endLine == cpos.line) = true := by rfl) (hs : starEach [ek, e] X.env = (false, eval ek X.env) :: starEach [e] X.env := by rfl) (hs1 : starEach [e] X.env = (false, eval e X.env) :: starEach [] X.env := by rfl) (hplain : (backTo cpos (starEach [e] X.env)).any (·.1) = false := by rfl)
    (hs2 : swapsWith (.Call (.Attribute (.Name x p) "insert" apos) [ek, e] [] cpos) none pos.line X.env = pure false := by rfl) :
    JS X K (.Expr (.Call (.Attribute (.Name x p) "insert" apos) [ek, e] [] cpos) pos) (tDrop (tBM K "list" rIns (tVar i) (tCons tk (tCons te tNil)))) (pInsT i fk f) := ⟨by
  subst hK
  exact ps_expr (pe_bm PySem.F.plainAttrs_list PySem.F.slot_list_insert PySem.F.type_list_insert mt_ins (pe_var hN hv hd hcd) (pa_cons hk.pe (pa_cons he.pe pa_nil hs1) hs) hbase hfew hline hs hplain) hs2, by
  intro H0 O0 G σ H ρ o E ok s hf q
  obtain ⟨kd, e1, hf⟩ := bind_some' hf
  obtain ⟨k, e2, hf⟩ := bind_some' hf
  obtain ⟨yd, e5, hf⟩ := bind_some' hf
  obtain ⟨sl2, e3, hf⟩ := bind_some' hf
  obtain ⟨ds, e4, hf⟩ := bind_some' hf
  rw [asOw_eq e4] at e3
  cases yd with
  | str t =>
    by_cases hc : 0 ≤ k ∧ k.toNat ≤ ds.length ∧ fits ds.length = true
    · simp only [if_pos hc] at hf
      cases hf
      obtain ⟨a0, xs0, h10, h20, h30⟩ := s.getOw e3
      refine ⟨_, h10, .inl ⟨rfl, _, SqL.of h20⟩, ?_⟩
      refine s.evalF hk.pu ok e1 fun v H1 s1 t1 rv => ?_
      refine t1.evalF he.pu ok e5 fun v2 H2 s12 t2 rv2 => ?_
      obtain ⟨O, s0, n, nd, g, sl⟩ := t2.ex
      obtain ⟨a, xs, h1, h2, h3, h4⟩ := sl.getOw e3
      rw [h10] at h1
      cases h1
      have hl := h4.length
      have hfit : ds.length < sizeLine := of_decide_eq_true hc.2.2
      cases rv with
      | int m =>
        obtain rfl : m = k := Option.some.inj e2
        cases rv2 with
        | str t =>
          refine ⟨a0, xs, m, .str t, rfl, rfl, h3, hc.1, by omega, by omega, q σ _ ⟨O, fun b o e => ?_, n, nd, ?_, ?_⟩⟩
          · rw [upd_ne (ne_of_none e (n a0 h2))]
            exact s0 b o e
          · rw [hid_upd (by simp [h2])]
            exact g
          · rw [hid_upd (by simp [h2])]
            exact sl.write ((h4.take' _).append (.cons (.str t) (h4.drop' _))) nd e3 h10
      | _ => cases e2
    · simp only [if_neg hc] at hf
      cases hf
  | _ => cases hf⟩
end
end L2
set_option maxHeartbeats 4000000
namespace L2
open PySem PySem.Spec PyProof.Rows
section
variable {X : Cx} {K : PySem.W.Frag}
def rInD (K : PySem.W.Frag) : R2 := fun y x H Q => ∃ l xs ds d, x = .ref l ∧ SqL K H l xs ∧ RepAll K H xs ds ∧ Rep K H y d ∧ shapedAll ds = true ∧ SeqAt.shaped d = true ∧ Q (.bl (ds.any fun e => PyData.eqv e d)) H
theorem op_inD (hu : X.A.units + 66 < cLine) : OpR X (compareOp .In) (rInD X.K) := by
  intro pins s σ H y x u v Q I ru rx h
  obtain ⟨l, xs, ds, d, rfl, hq, ra, rd, hsa, hsd, q⟩ := h
  cases rx
  obtain ⟨its, r, pl, hz⟩ := I.list hq
  have hl := r.length
  have hl2 := ra.length
  classical
  let e : Value → Bool := fun y => decide (∃ (i : Nat) (d' : D), its[i]? = some y ∧ ds[i]? = some d' ∧ PyData.eqv d' d = true)
  have ee : ∀ (i : Nat) (d' : D) (y' : Value), its[i]? = some y' → ds[i]? = some d' → e y' = PyData.eqv d' d := fun i d' y' h1 h2 => by
    cases hb : PyData.eqv d' d with
    | true => exact decide_eq_true ⟨i, d', h1, h2, hb⟩
    | false =>
      refine decide_eq_false ?_
      rintro ⟨j, d2, g1, g2, g3⟩
      obtain ⟨x1, a1, b1⟩ := ra.get h2
      obtain ⟨x2, a2, b2⟩ := ra.get g2
      obtain ⟨u1, c1, w1⟩ := r.get a1
      obtain ⟨u2, c2, w2⟩ := r.get a2
      rw [h1] at c1
      cases c1
      rw [g1] at c2
      cases c2
      have ex := w1.inj w2
      subst ex
      have := Rep.uniq I b1 b2
      subst this
      rw [hb] at g3
      cases g3
  have hget : ∀ {i : Nat} (hi : i < its.toArray.size), ∃ d', ds[i]? = some d' ∧ its[i]? = some its.toArray[i] := fun {i} hi => by
    have hi' : i < its.length := by simpa using hi
    exact ⟨ds[i], by simp [show i < ds.length by omega], by simp [hi']⟩
  have hmap : its.map e = ds.map (fun d' => PyData.eqv d' d) := by
    apply List.ext_getElem?
    intro i
    rw [List.getElem?_map, List.getElem?_map]
    by_cases hi : i < its.length
    · have h1 : its[i]? = some its[i] := List.getElem?_eq_getElem hi
      have h2 : ds[i]? = some ds[i] := List.getElem?_eq_getElem (by omega)
      rw [h1, h2, Option.map_some, Option.map_some, ee i _ _ h1 h2]
    · rw [List.getElem?_eq_none (by omega), List.getElem?_eq_none (by omega)]
      rfl
  have hany : its.toArray.any e = ds.any (fun d' => PyData.eqv d' d) := by
    have h1 : (its.map e).any id = its.any e := by rw [List.any_map]; rfl
    have h2 : (ds.map (fun d' => PyData.eqv d' d)).any id = ds.any (fun d' => PyData.eqv d' d) := by rw [List.any_map]; rfl
    rw [show its.toArray.any e = its.any e by simp, ← h1, hmap, h2]
  refine SeqAt.in_listAt e pl.isList ?_ ⟨.bl _, H, I, rfl, by rw [hany]; exact q⟩
  intro y' hy'
  obtain ⟨i, hi', rfl⟩ := Array.mem_iff_getElem.mp hy'
  obtain ⟨d', h1, h2⟩ := hget hi'
  rw [ee i d' _ h2 h1]
  obtain ⟨x1, a1, b1⟩ := ra.get h1
  obtain ⟨u1, c1, w1⟩ := r.get a1
  rw [h2] at c1
  cases c1
  have sh1 : SeqAt.shaped d' = true := List.all_eq_true.mp hsa d' (List.mem_of_getElem? h1)
  obtain ⟨as, rd1⟩ := b1.reads I (Bool.and_eq_true_iff.mp sh1).1 w1
  obtain ⟨bs, rd2⟩ := rd.reads I (Bool.and_eq_true_iff.mp hsd).1 ru
  intro prog w E Q' hQ'
  refine SeqAt.eqBoolOverData prog w _ E s _ _ d' d as bs Q' rd1 rd2 (SeqAt.canLay_of_shaped sh1) (SeqAt.canLay_of_shaped hsd) ?_ hQ'
  have := SeqAt.depth_of_shaped sh1
  have h3 : min d'.depth d.depth ≤ d'.depth := Nat.min_le_left _ _
  have h4 : X.A.in1.units = X.A.units + 1 := rfl
  omega
def dInD (d l : D) : Option D := (asL l).bind fun ds => if shapedAll ds = true ∧ SeqAt.shaped d = true then some (.bool (ds.any fun e => PyData.eqv e d)) else none
theorem jo_inD (hK : X.K = K) (hu : X.A.units + 66 < cLine) : OpJ X K (compareOp .In) (rInD K) dInD := ⟨by subst hK; exact op_inD hu, by
  intro O H x y a b d Q ok ra rb hg q
  obtain ⟨ds, e3, hg⟩ := bind_some' hg
  by_cases hc : shapedAll ds = true ∧ SeqAt.shaped a = true
  · rw [if_pos hc] at hg
    cases hg
    cases rb with
    | lst h r =>
      cases e3
      exact ⟨_, _, ds, a, rfl, hid_le.seq h, r.mono hid_le, ra.mono hid_le, hc.1, hc.2, q _ H (Same.refl H) (.bl _)⟩
    | _ => cases e3
  · rw [if_neg hc] at hg
    cases hg⟩
end
end L2
set_option maxHeartbeats 4000000
namespace L2
open PySem PySem.Spec PyProof.Rows
section
variable {X : Cx} {K : PySem.W.Frag}
end
end L2
set_option maxHeartbeats 4000000
namespace L2
open PySem PySem.Spec PyProof.Rows PySem.W
theorem heap_put (h : Heap) (C : Addr) (o : Obj) (ho : o.data ≠ .freed) : ∃ h8 : Heap, h8.get? C = some o ∧ ∀ b, b ≠ C → h8.get? b = h.get? b := by
  have hn : C < max h.objs.size (C + 1) := Nat.lt_of_lt_of_le (Nat.lt_succ_self C) (Nat.le_max_right _ _)
  refine ⟨⟨Array.ofFn (n := max h.objs.size (C + 1)) fun i => if i.1 = C then o else (h.objs[i.1]?).getD { o with data := .freed }, h.life⟩, ?_, fun b hb => ?_⟩
  · unfold Heap.get?
    simp only [Array.getElem?_ofFn, hn, dif_pos, if_true]
    obtain ⟨c, d, dt, sl⟩ := o
    cases dt <;> first | rfl | exact absurd rfl ho
  · unfold Heap.get?
    simp only [Array.getElem?_ofFn]
    by_cases hl : b < max h.objs.size (C + 1)
    · simp only [dif_pos hl, if_neg hb]
      cases e : h.objs[b]? with
      | none => rfl
      | some x => rfl
    · rw [dif_neg hl]
      have : h.objs[b]? = none := Array.getElem?_eq_none (Nat.le_trans (Nat.le_max_left _ _) (Nat.not_lt.mp hl))
      rw [this]
theorem noteFrame_fr {x : Value} {e1 e2 : Env} (h : e1.frame = e2.frame) : noteFrame x e1 = noteFrame x e2 := by
  unfold noteFrame PySem.frameOf
  rw [h]
theorem ff_swap {h h' B B' : Heap} (hb : ∀ b, B.get? b = none → B'.get? b = none) : ∀ {l : List Env}, (∀ b o, b ∈ frs l → h.get? b = some o → h'.get? b = some o) → h.FunFrames B l → h'.FunFrames B' l
  | [], _, _ => trivial
  | env :: r, hh, hl => by
    obtain ⟨hk, ⟨L, o, hf, hn, ho, hd⟩, hr⟩ := hl
    refine ⟨hk, ⟨L, o, hf, hb L hn, hh L o ?_ ho, hd⟩, ff_swap hb (fun b o' hm => hh b o' ?_) hr⟩
    · unfold frs; rw [List.filterMap_cons, hf]; exact List.mem_cons_self
    · unfold frs; rw [List.filterMap_cons, hf]; exact List.mem_cons_of_mem _ hm
section
variable {M : Model} {A : Around} {Ex : Value → Shared → Prop} {s : Shared} {B : Heap} {l outer : List Env} {env : Env} {L e : Addr} {cls a0 fl : Value}
theorem mark_set (hk : B.StaysIn s.heap) (hl : s.heap.FunFrames B l) (ht : s.heap.TracedAtW B e cls a0 fl) (o : Option Addr) {Q : Unit → Shared → Prop}
    (h : ∀ h', B.StaysIn h' → h'.FunFrames B l → h'.TracedAtW B e cls a0 (o.elim Value.none fun f => rawInt f) → (∀ b o, s.heap.get? b = some o → (∀ vs, o.data ≠ .fields vs) → h'.get? b = some o) → Q () { s with heap := h' }) :
    wpAny M A (setFlight (.ref e) o) Q Ex s := by
  obtain ⟨oe, vs, T, oT, ts, he, hc, hd, h1, hnT, hTe, hT, hdT, h3⟩ := ht
  have z3 : 3 < ts.size := (Array.getElem?_eq_some_iff.mp h3).1
  have oth : ∀ b, b ≠ T → (s.heap.update T (Obj.mapFields (·.setIfInBounds 3 (o.elim Value.none fun f => rawInt f)))).get? b = s.heap.get? b := fun b hb => Heap.get?_update_other _ _ (Ne.symm hb)
  have nr : ∀ b o, s.heap.get? b = some o → (∀ vs, o.data ≠ .fields vs) → b ≠ T := fun b o hb hnf q => by
    subst q
    rw [hT] at hb
    cases hb
    exact hnf ts hdT
  unfold setFlight
  refine wpAny_bind (wpAny_field he hd h1 ?_)
  rw [if_pos (by simp)]
  refine wpAny_setField hT hdT z3 (h _ (fun b o hb => ?_) (hl.of_keeps fun b o hb hnf => ⟨o, by rw [oth b (nr b o hb hnf)]; exact hb, rfl⟩) ?_ fun b o hb hnf => by rw [oth b (nr b o hb hnf)]; exact hb)
  · have nb : b ≠ T := fun q => by subst q; rw [hnT] at hb; cases hb
    rw [oth b nb]
    exact hk b o hb
  · exact ⟨oe, vs, T, _, _, by rw [oth e (Ne.symm hTe)]; exact he, hc, hd, h1, hnT, hTe, Heap.get?_update_self _ hT (Obj.isFreed_of_fields (Obj.data_mapFields hdT _)), Obj.data_mapFields hdT _, by simp [z3]⟩
theorem pass_on (hk : B.StaysIn s.heap) (hl : s.heap.FunFrames B l) (ht : s.heap.TracedAtW B e cls a0 fl) {what : String} {cenv : Env} {Q : Value → Shared → Prop}
    (h : ∀ h' fl', B.StaysIn h' → h'.FunFrames B l → h'.TracedAtW B e cls a0 fl' → (∀ b o, s.heap.get? b = some o → (∀ vs, o.data ≠ .fields vs) → h'.get? b = some o) → Ex (.ref e) { s with heap := h' }) :
    wpAny M A (PySem.passOn what (.ref e) cenv) Q Ex s := by
  have ht' := ht
  obtain ⟨oe, vs, T, oT, ts, he, hc, hd, h1, _⟩ := ht'
  unfold PySem.passOn
  refine wpAny_bind (wpAny_field he hd h1 ?_)
  rw [if_neg (by simp)]
  exact wpAny_bind (mark_set hk hl ht cenv.frame fun h' k1 k2 k3 k4 => wpAny_throw (h h' _ k1 k2 k3 k4))
theorem leaves_at (hfr : A.frames = some (env :: outer)) (hf : env.frame = some L) (hk : B.StaysIn s.heap) (hen : B.get? e = none) (hl : s.heap.FunFrames B (env :: outer)) (ht : s.heap.TracedAtW B e cls a0 fl) {Q : Unit → Shared → Prop}
    (hQ : ∀ h', Heap.FlyingW B outer e cls a0 h' → s.heap.UpToSlots h' → Q () { s with heap := h' }) : wpAny M A (leaving env (.ref e)) Q Ex s := by
  by_cases hm : fl = rawInt L
  · subst hm
    unfold leaving
    refine wpAny_bind (wpAny_noteFrame_againW hf ht (wpAny_landsW ⟨hk, hen, hl, ht⟩ fun h' hfl hu => ?_))
    obtain ⟨k1, k2, ⟨_, _, k3⟩, k4⟩ := hfl
    exact hQ h' ⟨k1, k2, k3, k4⟩ hu
  · obtain ⟨oe, vs, T, oT, ts, he, ⟨hcls, h0⟩, hd, h1, hnT, hTe, hT, hdT, h3⟩ := ht
    subst hcls
    unfold leaving noteFrame
    simp only [hf]
    refine wpAny_bind (wpAny_bind (wpAny_field he hd h1 ?_))
    rw [if_pos (by simp)]
    refine wpAny_bind (wpAny_field hT hdT h3 ?_)
    rw [if_neg (by simpa using hm)]
    refine wpAny_bind (wpAny_setField hT hdT (Array.getElem?_eq_some_iff.mp h3).1 ?_)
    have oth : ∀ b, b ≠ T → (s.heap.update T (Obj.mapFields (·.setIfInBounds 3 Value.none))).get? b = s.heap.get? b := fun b hb => Heap.get?_update_other _ _ (Ne.symm hb)
    have nr : ∀ b o, s.heap.get? b = some o → (∀ vs, o.data ≠ .fields vs) → b ≠ T := fun b o hb hnf q => by
      subst q
      rw [hT] at hb
      cases hb
      exact hnf ts hdT
    refine wpAny_newEntryW hfr (hl.of_keeps fun b o hb hnf => ⟨o, by rw [oth b (nr b o hb hnf)]; exact hb, rfl⟩) hf (by rw [oth e (Ne.symm hTe)]; exact he)
      (fun b o hb => ?_) hen hd (Array.getElem?_eq_some_iff.mp h1).1 h0 fun h' ⟨x1, ⟨_, _, x2⟩, x3, x4⟩ => hQ h' ⟨x1, hen, x2, x3⟩ fun b o hb hnf => x4 b o (by rw [oth b (nr b o hb hnf)]; exact hb) hnf
    have nb : b ≠ T := fun q => by subst q; rw [hnT] at hb; cases hb
    rw [oth b nb]
    exact hk b o hb
end
def cxW (X : Cx) (env' : Env) (C : Addr) : Value → Shared → Prop := notedBy (model X.prog X.w) X.A env' fun x s' => ∃ m, s'.heap.Ns C m ∧ ∀ h', Heap.SameBut C s'.heap h' → ∀ cenv : Env, cenv.locals = C →
  wpAny (model X.prog X.w) X.A (PySem.passOn "comprehension.variables-let-go" x cenv) (fun (_ : Value) _ => False) X.xe { s' with heap := h' }
abbrev cxCompX (X : Cx) (N' : List Str) (scope : Scope) (cl : List (Str × Addr)) (fp : List Addr) (pins : List (Addr × Obj)) (s : Shared) (H : Hp) : Cx := (cxComp X N' scope cl fp pins s H).wish (cxW X (cxComp X N' scope cl fp pins s H).env s.heap.objs.size)
section
variable {P : Program} {w : World} {K : PySem.W.Frag} {mg : Str → Option Value} {base : Heap} {N : List Str} {qual : Str} {scope0 : Scope} {f : Addr} {cd : Value} {A : Around} {outer : List Env} {s : Shared} {H : Hp} {E : XK}
  {N' : List Str} {scope : Scope} {cl : List (Str × Addr)} {fp : List Addr} {pins : List (Addr × Obj)} {s3 : Shared} {H3 : Hp} {σ : St}
theorem comp_pass (I3 : Inv (cxOf (CXE P w) P w K mg base N qual scope0 f cd A outer s H E) pins σ H3 s3) (f3 : ∀ b ∈ fp, FpOk (cxOf (CXE P w) P w K mg base N qual scope0 f cd A outer s H E) pins H3 b) :
    Passes (CXE P w) (cxCompX (cxOf (CXE P w) P w K mg base N qual scope0 f cd A outer s H E) N' scope cl fp pins s3 H3) E := by
  intro pins' σ' H1 s1 e s2 I hx
  have IX : Inv (cxOf (CXE P w) P w K mg base N qual scope0 f cd A outer s H E) pins σ H1 s1 := I3.call' (ch := fp) I.os I.base I.hok I.bare fun b hb => ⟨(f3 b hb).2.2.2.1, (f3 b hb).2.1, (f3 b hb).2.2.2.2.1, (f3 b hb).2.2.2.2.2⟩
  obtain ⟨a, t, cls, B, H', rfl, hos, hg, hfl, hst, hB1, hn, hH, he⟩ := hx
  obtain ⟨m, hns, _⟩ := I.loc
  obtain ⟨oC, es, ep, hoC, hdC, hrC⟩ := hns
  have hoC : s1.heap.get? s3.heap.objs.size = some oC := hoC
  have hCH : H1 s3.heap.objs.size = none := I.free
  have un : Un (frs outer) [] H H1 s.heap s1.heap := IX.base
  have hCl : s3.heap.objs.size ≠ s.heap.objs.size := Ne.symm (Nat.ne_of_lt I3.lt)
  have hCo : s3.heap.objs.size ∉ frs outer := I3.nofs (Nat.le_refl _)
  have hsz : s.heap.objs.size ≤ s3.heap.objs.size := I3.sz
  have fr : ∀ b, b ∈ frs (envOfC qual scope0 s.heap.objs.size f cd :: outer) → b = s.heap.objs.size ∨ b ∈ frs outer := fun b hb => by
    obtain ⟨env, he, hf⟩ := List.mem_filterMap.mp hb
    rcases List.mem_cons.mp he with rfl | he
    · exact .inl (Option.some.inj hf).symm
    · exact .inr (List.mem_filterMap.mpr ⟨env, he, hf⟩)
  have fr' : ∀ b, b ∈ frs outer → b ∈ frs (envOfC qual scope0 s.heap.objs.size f cd :: outer) := fun b hb => by
    obtain ⟨env, he, hf⟩ := List.mem_filterMap.mp hb
    exact List.mem_filterMap.mpr ⟨env, .tail _ he, hf⟩
  have hCf : s3.heap.objs.size ∉ frs (envOfC qual scope0 s.heap.objs.size f cd :: outer) := fun z => by
    rcases fr _ z with z | z
    · exact hCl z
    · exact hCo z
  have old : ∀ b o, s.heap.get? b = some o → b ∉ frs outer → b ∉ frs (envOfC qual scope0 s.heap.objs.size f cd :: outer) := fun b o q n hb => by
    rcases fr b hb with z | z
    · subst z; exact absurd (Heap.lt_size q) (Nat.lt_irrefl _)
    · exact n z
  have notC : ∀ b o, s.heap.get? b = some o → b ≠ s3.heap.objs.size := fun b o q z => by
    subst z
    exact absurd (Nat.lt_of_lt_of_le (Heap.lt_size q) hsz) (Nat.lt_irrefl _)
  have hBC : B.get? s3.heap.objs.size = some oC := hB1 _ oC hoC hCf hCH
  have hfz : oC.data ≠ .freed := fun z => by rw [hdC] at z; cases z
  have hnf : ∀ vs, oC.data ≠ .fields vs := fun vs z => by rw [hdC] at z; cases z
  obtain ⟨g1, g2, g3, g4⟩ := hfl
  show wpAny (model P w) (A.deeper (envOfC qual scope0 s.heap.objs.size f cd)) (noteFrame (.ref a) _) _ _ s2
  have nf : noteFrame (.ref a) (cxComp (cxOf (CXE P w) P w K mg base N qual scope0 f cd A outer s H E) N' scope cl fp pins s3 H3).env = noteFrame (.ref a) (envOfC qual scope0 s.heap.objs.size f cd) := noteFrame_fr rfl
  rw [nf]
  refine wpAny_noteFrame_onW (base := B) (L := s.heap.objs.size) I3.ok.frames g3 rfl g4 g1 g2 fun h3 hN => ?_
  obtain ⟨n1, n2, n3, n4⟩ := hN
  refine ⟨m, ⟨oC, es, ep, n1 _ _ hBC, hdC, hrC⟩, fun h4 sb cenv _ => ?_⟩
  have hB' : ∀ b o, (hideAll B [s3.heap.objs.size]).get? b = some o → b ≠ s3.heap.objs.size ∧ B.get? b = some o := fun b o q => by
    refine ⟨fun z => ?_, PySem.W.of_hideAll _ q⟩
    subst z
    rw [PySem.W.hideAll_none _ (List.mem_singleton.mpr rfl)] at q
    cases q
  have hBn : ∀ b, B.get? b = none → (hideAll B [s3.heap.objs.size]).get? b = none := fun b q => by
    cases z : (hideAll B [s3.heap.objs.size]).get? b with
    | none => rfl
    | some o => rw [(hB' b o z).2] at q; cases q
  have aC : a ≠ s3.heap.objs.size := fun z => by rw [← z, g2] at hBC; cases hBC
  have k4 : (hideAll B [s3.heap.objs.size]).StaysIn h4 := fun b o q => by
    obtain ⟨q1, q2⟩ := hB' b o q
    rw [sb.2 b q1]
    exact n1 b o q2
  have l4 : h4.FunFrames (hideAll B [s3.heap.objs.size]) (envOfC qual scope0 s.heap.objs.size f cd :: outer) := ff_swap hBn (fun b o hb q => by
    have : b ≠ s3.heap.objs.size := fun z => hCf (by rw [← z]; exact hb)
    rw [sb.2 b this]
    exact q) n2
  have t4 : h4.TracedAtW (hideAll B [s3.heap.objs.size]) a cls (.ref t) (rawInt s.heap.objs.size) := by
    obtain ⟨oe, vs, T, oT, ts, y1, y2, y3, y4, y5, y6, y7, y8, y9⟩ := n3
    have TC : T ≠ s3.heap.objs.size := fun z => by rw [← z, y5] at hBC; cases hBC
    exact ⟨oe, vs, T, oT, ts, by rw [sb.2 a aC]; exact y1, y2, y3, y4, hBn T y5, y6, by rw [sb.2 T TC]; exact y7, y8, y9⟩
  refine pass_on (l := envOfC qual scope0 s.heap.objs.size f cd :: outer) k4 l4 t4 fun h5 fl5 k5 l5 t5 u5 => ?_
  show wpAny (model P w) (A.deeper (envOfC qual scope0 s.heap.objs.size f cd)) (leaving (envOfC qual scope0 s.heap.objs.size f cd) (.ref a)) _ _ _
  refine leaves_at (L := s.heap.objs.size) I3.ok.frames rfl k5 (hBn a g2) l5 t5 fun h6 hfl6 hu6 => ?_
  refine ⟨a, t, cls, hideAll B [s3.heap.objs.size], H', rfl, hos.trans IX.os, hg, hfl6, fun h7 hB7 hu7 => ?_, fun b o q n hn' => ?_, ?_, hH, he⟩
  · obtain ⟨h8, e8, o8⟩ := heap_put h7 s3.heap.objs.size oC hfz
    obtain ⟨u2, hok⟩ := hst h8 (fun b o q => by
      by_cases hb : b = s3.heap.objs.size
      · subst hb
        rw [hBC] at q
        cases q
        exact e8
      · rw [o8 b hb]
        exact hB7 b o (PySem.W.hideAll_get _ q (by simpa using hb))) (fun b o q hf => by
      by_cases hb : b = s3.heap.objs.size
      · subst hb
        rw [g1 _ _ hBC] at q
        cases q
        exact ⟨_, e8⟩
      · obtain ⟨sl, q3⟩ := n4 b o q hf
        have q4 : h4.get? b = some { o with slots := sl } := by rw [sb.2 b hb]; exact q3
        have q5 := u5 b _ q4 hf
        obtain ⟨sl6, q6⟩ := hu6 b _ q5 hf
        obtain ⟨sl7, q7⟩ := hu7 b _ q6 hf
        exact ⟨sl7, by rw [o8 b hb]; exact q7⟩)
    have hC' : H' s3.heap.objs.size = none := u2.free _ oC hoC hCH (by simp)
    refine ⟨⟨fun b o q hn' hb _ => ?_, fun b o q hn' hb _ => ?_, fun b o q hn' _ => ?_, fun b o q _ => ?_, fun b xs q => u2.tups b xs (un.tups b xs q), fun b o u q => u2.frzs b o u (un.frzs b o u q), fun b ps q => ?_⟩, fun x o q => (hok x o q).stay (fun b u hb qb => ?_) (fun _ q => q) fun _ _ q => q⟩
    · rw [← o8 b (notC b o q)]
      exact u2.keep b o (un.keep b o q hn' hb (by simp)) (un.free b o q hn' (by simp)) (old b o q hb) (by simp)
    · obtain ⟨sl, q1⟩ := un.slot b o q hn' hb (by simp)
      obtain ⟨sl2, q2⟩ := u2.slot b _ q1 (un.free b o q hn' (by simp)) (fr' b hb) (by simp)
      exact ⟨sl2, by rw [← o8 b (notC b o q)]; exact q2⟩
    · obtain ⟨o', q1⟩ := un.there b o q (by simp)
      exact u2.free b o' q1 (un.free b o q hn' (by simp)) (by simp)
    · obtain ⟨o', q1⟩ := un.there b o q (by simp)
      obtain ⟨o2, q2⟩ := u2.there b o' q1 (by simp)
      exact ⟨o2, by rw [← o8 b (notC b o q)]; exact q2⟩
    · obtain ⟨m1, q1⟩ := un.tbls b ps q
      obtain ⟨m2, q2⟩ := u2.tbls b _ q1
      exact ⟨m1 ++ m2, by rw [q2, Array.append_assoc]⟩
    · have nb : b ≠ s3.heap.objs.size := fun z => by
        subst z
        rcases hb with rfl | hb
        · rw [hC'] at q; cases q
        · rw [hC'] at hb; cases hb
      rw [← o8 b nb]
      exact qb
  · exact PySem.W.hideAll_get _ (hB1 b o (un.keep b o q hn' n (by simp)) (old b o q n) (un.free b o q hn' (by simp))) (by simpa using notC b o q)
  · cases q : s.heap.get? a with
    | none => rfl
    | some o =>
      obtain ⟨o', q1⟩ := un.there a o q (by simp)
      rw [hn] at q1
      cases q1
end
end L2
set_option maxHeartbeats 4000000
namespace L2
open PySem PySem.Spec PyProof.Rows
section
variable {X : Cx} {tg elt iter : Expr} {ifs : List Expr} {scope : Scope} {own : List Str} {fv : List (Nat × Str)} {wi : TI} {g : TG} {tc : TT} {te : TE}
theorem comp_runX {pos pos' : Pos} {use : Option (Value → Sem Unit)} {pins : List (Addr × Obj)} {s : Shared} {σ : St} {H : Hp} {Q : Value → Shared → Prop} {R : VK} {cl : List (Str × Addr)} (hc : X.calm = true) (hi : PI X tg iter wi) (I : Inv X pins σ H s)
    (ck : ClOk X scope cl) (fo : FvOk X scope fv) (gk : GKeep own.length g)
    (bg : ∀ fp pins s H, PG (cxComp X (own ++ fv.map (·.2)) scope cl fp pins s H) tg g)
    (bt : ∀ fp pins s H, PTs (cxComp X (own ++ fv.map (·.2)) scope cl fp pins s H) ifs tc)
    (be : ∀ fp pins s H σ, Inv X pins σ H s → (∀ b ∈ fp, FpOk X pins H b) → PE (cxCompX X (own ++ fv.map (·.2)) scope cl fp pins s H) elt te)
    (hs : ∀ x, foldedSetIterable iter X.env x = pure x) (h : tComp wi g tc te own.length fv σ H R)
    (fin : ∀ D C H' s', Inv X pins σ H' s' → R (.ref D) H' → (∃ m, s'.heap.Ns C m) → H' C = none →
      (∀ pins1 σ1 H1 s1 h', Inv X pins1 σ1 H1 s1 → (∀ p ∈ pins1, p ∈ pins) → H1 C = none → Heap.SameBut C s1.heap h' → Inv X pins1 σ1 H1 { s1 with heap := h' }) → (C ≠ X.env.locals ∧ C ∉ X.fs) →
      compPost (model X.prog X.w) X.A X.xe use Q (.ref D) C (.ok .next) s') :
    wpAny (model X.prog X.w) X.A (comprehension (.ListComp elt [⟨tg, iter, ifs, 0⟩] scope pos) scope X.env pos' (newList []) false (eval iter X.env) use) Q X.xe s := by
  refine wpAny_comprehension_free (use := use) (g := ⟨tg, iter, ifs, 0⟩) (gs := []) rfl hs ck.clos ck.kind ck.names (thn (hi pins s σ H _ I h) fun v s1 h1 => thn h1 fun itv s2 h2 => ?_)
  obtain ⟨it, fp, tn, J, H2, e, I2, T, st2, f2, RR⟩ := h2
  subst e
  refine wpAny_newObj_type (wpAny_newFunctionEnv ck.cell (by intro y hy; simp at hy) (fun h₁ hns₁ hsb₁ => ?_) ck.kind)
  dsimp only at hns₁ hsb₁ ⊢
  have hD := I2.fresh
  have I3 : Inv X pins σ (upd H2 s2.heap.objs.size (.lst [])) { s2 with heap := s2.heap.push { cls := .type "list", dict := none, data := .seq ([] : List Value).toArray }, toks := s2.toks } := I2.lnew (its := []) .nil (Nat.zero_le _)
  obtain ⟨W, ⟨m0, w0⟩, turn⟩ := RR _ hD
  have olt : ∀ b ∈ fp, b < s2.heap.objs.size := fun b hb => by
    obtain ⟨o, e, _⟩ := T.obj _ _ st2 b hb
    exact Heap.lt_size e
  generalize hDD : s2.heap.objs.size = Da at *
  generalize hH3 : upd H2 Da (.lst []) = H3 at *
  have f3 : ∀ b ∈ fp, FpOk X pins H3 b := fun b hb => ⟨by rw [← hH3, upd_ne (Nat.ne_of_lt (olt b hb))]; exact (f2 b hb).1, (f2 b hb).2⟩
  generalize hs3 : ({ s2 with heap := s2.heap.push { cls := .type "list", dict := none, data := .seq ([] : List Value).toArray }, toks := s2.toks } : Shared) = s3 at *
  have e3 : s2.heap.push { cls := .type "list", dict := none, data := .seq ([] : List Value).toArray } = s3.heap := by rw [← hs3]
  rw [e3] at hns₁ hsb₁ ⊢
  have up2 : ∀ b o, s2.heap.get? b = some o → s3.heap.get? b = some o := fun b o e => by rw [← e3]; exact Heap.get?_push_of_some _ e
  have hlt : ∀ b ∈ fp, b < s3.heap.objs.size := fun b hb => by
    obtain ⟨o, e, _⟩ := T.obj _ _ st2 b hb
    exact Heap.lt_size (up2 _ _ e)
  have keep : ∀ b o, s3.heap.get? b = some o → h₁.get? b = some o := fun b o e => hsb₁.extBut b o (Nat.ne_of_lt (Heap.lt_size e)) (Heap.get?_push_of_some _ e)
  have stat : ∀ {H' : Hp}, (∀ b ∈ fp, H' b = none) → ∀ b ∈ fp, FpOk (cxComp X (own ++ fv.map (·.2)) scope cl fp pins s3 H3) [] H' b := fun {H'} hn b hb => by
    have ok := comp_ok (own := own) (fv := fv) I3 ck f3 hlt
    refine ⟨hn b hb, (ok.exf b hb).1, ok.exfs b hb, .inl hb, (ok.exf b hb).2, fun p hp => ?_⟩
    have hp' : p ∈ X.pn ++ pins := by
      rcases List.mem_append.mp hp with z | z
      · exact z
      · cases z
    exact (f3 b hb).2.2.2.2.2 p hp'
  have loop : ∀ s4 : Shared, Inv (cxComp X (own ++ fv.map (·.2)) scope cl fp pins s3 H3) [] (compSt own.length fv σ) H3 s4 → tn 0 s4.heap →
      codeAny (model X.prog X.w) X.A (.compLoop (.ListComp elt [⟨tg, iter, ifs, 0⟩] scope pos) 0 (.ref it) (.ref Da) (compEnvC scope cl s3.heap.objs.size X.env)) (compPost (model X.prog X.w) X.A X.xe use Q (.ref Da) s3.heap.objs.size) s4 := by
    intro s4 I4 st4
    refine codeAny_compLoop_go (fun n s' => ∃ i ys H', Inv (cxComp X (own ++ fv.map (·.2)) scope cl fp pins s3 H3) [] (compSt own.length fv σ) H' s' ∧ tn i s'.heap ∧ (∀ b ∈ fp, H' b = none) ∧ W i n ys H') ?_ m0
      ⟨0, [], H3, I4, st4, fun b hb => (f3 b hb).1, w0⟩
    rintro n s5 ⟨i, ys, H5, I5, st5, fr5, w5⟩
    obtain ⟨hDl, alt⟩ := turn i n ys H5 w5
    rcases alt with ⟨stop, qn⟩ | ⟨go, NN, hNN, step⟩
    · refine thn (T.done (cxComp X (own ++ fv.map (·.2)) scope cl fp pins s3 H3) rfl rfl rfl hc i [] s5 _ H5 _ I5 (stat fr5) st5 stop) fun r s6 ⟨hr, I6⟩ => ?_
      subst hr
      have hx := comp_ns I3 I6
      refine fin Da _ H5 s6 (comp_exit I3 f3 I6) qn hx.1 hx.2 (fun pins1 σ1 H1 s1 h' J1 hp1 hn1 sb => comp_forget I3 J1 hp1 hn1 sb) ⟨Ne.symm (Nat.ne_of_lt I3.lt), I3.nofs (Nat.le_refl _)⟩
    · refine thn (T.item (cxComp X (own ++ fv.map (·.2)) scope cl fp pins s3 H3) rfl rfl rfl hc i [] s5 _ H5 _ I5 (stat fr5) st5 go) fun r s6 ⟨u, hr, h6⟩ => ?_
      subst hr
      refine thn h6 fun _ s7 ⟨x, H7, I7, r7, y7, st7, fr7⟩ => ?_
      have I7' := I7.pinned (stat fr7) (T.obj _ _ st7)
      refine wpAny_mono (bg fp pins s3 H3 _ s7 _ H7 x u _ I7' r7 (gk _ _ _ _ (step x H7 y7))) (fun _ s8 ⟨σ8, H8, I8, ⟨kl, kk⟩, q8⟩ => ?_) (fun _ _ f => f.elim)
      have weak : ∀ {H9 : Hp} {s9 : Shared}, Inv (cxComp X (own ++ fv.map (·.2)) scope cl fp pins s3 H3) ([] ++ pinsAt fp s7.heap) σ8 H9 s9 →
          Inv (cxComp X (own ++ fv.map (·.2)) scope cl fp pins s3 H3) [] (compSt own.length fv σ) H9 s9 ∧ tn (i + 1) s9.heap ∧ (∀ b ∈ fp, H9 b = none) := fun {H9 s9} I9 => by
        refine ⟨I9.unpinned.weak kl.symm (fun j v hj => ?_), T.keep _ _ _ st7 fun b hb o e => (I9.pin (b, o) (List.mem_append_right _ (List.mem_append_right _ (mem_pinsAt hb e)))).1, fun b hb => ?_⟩
        · rw [kk j (compSt_get hj).1]
          exact hj
        · obtain ⟨o, e, d⟩ := T.obj _ _ st7 b hb
          exact (I9.pin (b, o) (List.mem_append_right _ (List.mem_append_right _ (mem_pinsAt hb e)))).2.1
      refine wpAny_mono (bt fp pins s3 H3 _ s8 σ8 H8 _ I8 q8) (fun b s9 ⟨H9, I9, q9⟩ => ?_) (fun _ _ f => f.elim)
      cases b with
      | false =>
        have q9' : NN ys H9 := q9
        obtain ⟨m', hm, w9⟩ := hNN _ _ q9'
        have wk := weak I9
        rw [if_neg Bool.false_ne_true]
        exact ⟨m', hm, i + 1, ys, H9, wk.1, wk.2.1, wk.2.2, w9⟩
      | true =>
        rw [if_pos rfl]
        rw [if_pos rfl] at q9
        refine wpAny_mono (be fp pins s3 H3 σ I3 f3 _ s9 σ8 H9 _ (I9.wish _) q9) (fun y s10 ⟨v10, H10, I10w, r10, d10, l10, n10⟩ => ?_) (fun _ _ z => z)
        have I10 := I10w.unwish
        obtain ⟨m', hm, w10⟩ := hNN _ _ n10
        refine wpAny_mono (mt_append (X := cxComp X (own ++ fv.map (·.2)) scope cl fp pins s3 H3) _ s10 σ8 H10 (.ref Da) [v10] (.ref Da) [y] (fun _ H11 => H11 = upd H10 Da (.lst (ys ++ [v10]))) I10 rfl (.cons r10 .nil) ⟨Da, ys, v10, rfl, rfl, d10, l10, rfl⟩)
          (fun _ s11 ⟨v11, H11, I11, _, e11⟩ => ?_) (fun _ _ f => f.elim)
        subst e11
        have wk := weak I11
        exact ⟨m', hm, i + 1, ys ++ [v10], _, wk.1, wk.2.1, wk.2.2, w10⟩
  have I4 : Inv (cxComp X (own ++ fv.map (·.2)) scope cl fp pins s3 H3) [] (compSt own.length fv σ) H3 { s3 with heap := h₁, toks := s3.toks + ([] : List (Str × Value)).length } := comp_start I3 ck fo f3 hlt hns₁ keep
  have st4 : tn 0 h₁ := T.keep _ _ _ st2 fun b hb o e => keep b o (up2 b o e)
  have hfin : ∀ s4 : Shared, s4 = { s3 with heap := h₁, toks := s3.toks + ([] : List (Str × Value)).length } →
      codeAny (model X.prog X.w) X.A (.compStart (.ListComp elt [⟨tg, iter, ifs, 0⟩] scope pos) 0 (.ref it) (.ref Da) (compEnvC scope cl s3.heap.objs.size X.env)) (compPost (model X.prog X.w) X.A X.xe use Q (.ref Da) s3.heap.objs.size) s4 := by
    rintro s4 rfl
    refine codeAny_compStart_list (loop _ I4 st4) (T.self _ 0 _ _ _ st4 (loop _ I4 st4))
  refine hfin _ ?_
  rw [← hs3]
theorem pe_compX {pos : Pos} (own : List Str) (fv : List (Nat × Str)) (hc : X.calm = true) (hi : PI X tg iter wi) (fo : FvOk X scope fv) (gk : GKeep own.length g)
    (bg : ∀ fp pins s H, PG (cxComp X (own ++ fv.map (·.2)) scope (clF X.env scope.names []) fp pins s H) tg g)
    (bt : ∀ fp pins s H, PTs (cxComp X (own ++ fv.map (·.2)) scope (clF X.env scope.names []) fp pins s H) ifs tc)
    (be : ∀ fp pins s H σ, Inv X pins σ H s → (∀ b ∈ fp, FpOk X pins H b) → PE (cxCompX X (own ++ fv.map (·.2)) scope (clF X.env scope.names []) fp pins s H) elt te)
    (kind : scope.kind = .function) (cell : ∀ y ∈ scope.names, y.2 ≠ .cell) (names : ∀ x ∈ scope.names, x.2 = .local → scope.names.lookup x.1 = some .local)
    (free : freeOk X scope = true)
    (hs : ∀ x, foldedSetIterable iter X.env x = pure x := by intro _; rfl) :
    PE X (.ListComp elt [⟨tg, iter, ifs, 0⟩] scope pos) (tComp wi g tc te own.length fv) := by
  intro pins s σ H Q I h
  rw [eval_ListComp]
  refine comp_runX (use := none) hc hi I (clok_mk I.ok kind cell names (freeOk.all free)) fo gk bg bt be hs h fun D C H' s' I' q ⟨m, hm⟩ hn forget _ => ?_
  exact ⟨m, hm, fun h' sb => ⟨.ref D, H', forget pins σ H' s' h' I' (fun _ z => z) hn sb, rfl, q⟩⟩
end
def gComp (bd : D → PEnv → Option PEnv) (pt : PB) (fe : PF) (ge : PXe) (ρ0 : PEnv) : List D → Option Str
  | [] => none
  | d :: ds => (bd d ρ0).bind fun ρ1 => (pt ρ1).bind fun b => if b = true then (match ge ρ1 with
    | some C => some C
    | none => (fe ρ1).bind fun _ => gComp bd pt fe ge ρ0 ds) else gComp bd pt fe ge ρ0 ds
def gCompX (fi : PAs) (bd : D → PEnv → Option PEnv) (pt : PB) (fe : PF) (ge : PXe) (n : Nat) (is : List Nat) : PXe := fun ρ => (fi ρ).bind fun items => if fits items.length = true then gComp bd pt fe ge (compEnv n is ρ) items else none
section
variable {K : PySem.W.Frag} {R : Str → Hp → Prop} {wi : TI} {g : TG} {tc : TT} {te : TE} {fi : PAs} {bd : D → PEnv → Option PEnv} {pt : PB} {fe : PF} {ge : PXe}
theorem px_comp (hi : PuI K wi fi) (hg : PuG K g bd) (ht : PuT K tc pt) (he : PuE K te fe) (hx : PuEX K R te ge) (n : Nat) (fv : List (Nat × Str)) : PuEX K R (tComp wi g tc te n fv) (gCompX fi bd pt fe ge n (fv.map (·.1))) := by
  intro O σ H ρ C Q ok er hf q
  obtain ⟨items, e1, hf⟩ := bind_some' hf
  by_cases hc : fits items.length = true
  case neg => rw [if_neg hc] at hf; cases hf
  rw [if_pos hc] at hf
  refine hi O σ H ρ items _ ok er e1 fun J H1 s1 it => fun D0 hD0 => ?_
  have hlt : items.length < sizeLine := of_decide_eq_true hc
  have okD : ∀ {H'}, H' D0 ≠ none → Same H1 H' → OkO (D0 :: O) H' := fun {H'} hn s' a ha => by
    rcases List.mem_cons.mp ha with rfl | ha
    · cases e : H' a with
      | none => exact absurd e hn
      | some o => exact ⟨o, rfl⟩
    · exact ((ok.mono s1).mono s') a ha
  have sD : ∀ {H'}, Same H1 H' → Same (hid O H1) (hid (D0 :: O) H') := fun {H'} s' b o e => by
    obtain ⟨n1, e⟩ := hid_some e
    have nb : b ≠ D0 := ne_of_none e hD0
    rw [hid_out (by simp [nb, n1])]
    exact s' b o e
  have er1 : EnvR K (hid O H1) σ ρ := er.hid s1
  have lenE : (compSt n fv σ).length = (compEnv n (fv.map (·.1)) ρ).length := by simp [compSt, compEnv]
  refine comp_n (n := items.length) (fun i ys H' => H' D0 = some (.lst ys) ∧ Same H1 H' ∧ ys.length ≤ i ∧ gComp bd pt fe ge (compEnv n (fv.map (·.1)) ρ) (items.drop i) = some C)
    ⟨upd_same, Same.new hD0, Nat.zero_le _, by simpa using hf⟩ (fun i ys H' p => p.1) (fun i ys H' hi' p => ((it (D0 :: O) H' (okD (by rw [p.1]; simp) p.2.1) (sD p.2.1)).1 i hi')) ?_ ?_
  · rintro i ys H' x H'' hi' ⟨hD', s', hy, hcp⟩ yl
    obtain ⟨d, ed, s'', rd⟩ := (it (D0 :: O) H' (okD (by rw [hD']; simp) s') (sD s')).2.1 i x H'' hi' yl
    have hdrop : items.drop i = d :: items.drop (i + 1) := by
      rw [List.drop_eq_getElem_cons hi']
      congr 1
      exact Option.some.inj ((List.getElem?_eq_getElem hi').symm.trans ed)
    rw [hdrop] at hcp
    obtain ⟨ρ1, eb, hcp⟩ := bind_some' hcp
    obtain ⟨b, et, hcp⟩ := bind_some' hcp
    have s2 := s'.trans s''
    have hD'' := s'' _ _ hD'
    have ok2 : OkO (D0 :: O) H'' := okD (by rw [hD'']; simp) s2
    refine hg (D0 :: O) x d _ H'' _ ρ1 _ ok2 rd ((compEnv_r er1).mono (sD s2)) lenE eb fun σ2 hl2 er2 => ?_
    refine ht (D0 :: O) σ2 H'' ρ1 b _ ok2 er2 et fun H3 s3 => ?_
    have s03 := s2.trans s3
    have hD3 := s3 _ _ hD''
    cases b with
    | false =>
      rw [if_neg Bool.false_ne_true] at hcp ⊢
      exact ⟨hD3, s03, by omega, hcp⟩
    | true =>
      rw [if_pos rfl] at hcp ⊢
      cases hge : ge ρ1 with
      | some C' =>
        rw [hge] at hcp
        cases hcp
        exact hx (D0 :: O) σ2 H3 ρ1 C _ (ok2.mono s3) (er2.hid s3) hge fun H4 s4 => q H4 (s1.trans (s03.trans s4))
      | none =>
        rw [hge] at hcp
        obtain ⟨e, ee, hcp⟩ := bind_some' hcp
        refine he (D0 :: O) σ2 H3 ρ1 e _ (ok2.mono s3) (er2.hid s3) ee fun v H4 s4 rv => ?_
        have hD4 := s4 _ _ hD3
        have s04 := s03.trans s4
        refine ⟨hD4, by omega, upd_same, ?_, by rw [List.length_append]; show ys.length + 1 ≤ i + 1; omega, hcp⟩
        intro b' o' eb'
        rw [upd_ne (ne_of_none eb' hD0)]
        exact s04 b' o' eb'
  · rintro ys H' ⟨hD', s', hy, hcp⟩
    rw [List.drop_length] at hcp
    cases hcp
end
def PuXA (K : PySem.W.Frag) (R : Str → Hp → Prop) (t : TA) (g : PXe) : Prop := ∀ (O : List Addr) (σ : St) (H : Hp) (ρ : PEnv) (C : Str) (Q : List V → Hp → Prop), OkO O H → EnvR K (hid O H) σ ρ → g ρ = some C → (∀ H', Same H H' → R C H') → t σ H Q
structure JXA (X : Cx) (K : PySem.W.Frag) (R : Str → Hp → Prop) (es : List Expr) (t : TA) (r : PAs) (g : PXe) : Prop where
  pe : PA X es t
  pu : PuA K t r
  px : PuXA K R t g
def gNon : PXe := fun _ => none
def gCn (f : PF) (g g' : PXe) : PXe := fun ρ => match g ρ with
  | some C => some C
  | none => (f ρ).bind fun _ => g' ρ
def gIfE (c : PB) (g g' : PXe) : PXe := fun ρ => (c ρ).bind fun k => if k = true then g ρ else g' ρ
section
variable {X : Cx} {K : PySem.W.Frag} {R : Str → Hp → Prop} {e a b c : Expr} {es : List Expr} {te ta tb : TE} {t : TA} {f fa fb : PF} {r : PAs} {g ga gb : PXe} {tc : TT} {pc : PB} {pos : Pos}
theorem jex_of (h : JE X K e te f) : JEX X K R e te f gNon := ⟨h.pe, h.pu, by
  intro O σ H ρ C Q ok er hf q
  cases hf⟩
theorem JLX.jexL {f : PAs} (h : JLX X K R e te f g) : JEX X K R e te (pOfL f) g := ⟨h.pe, (JL.je ⟨h.pe, h.pu⟩).pu, h.px⟩
theorem jxa_nil : JXA X K R [] tNil pNil gNon := ⟨(ja_nil (X := X) (K := K)).pe, (ja_nil (X := X) (K := K)).pu, by
  intro O σ H ρ C Q ok er hf q
  cases hf⟩
theorem jxa_cons (h : JEX X K R e te f g) (h2 : JXA X K R es t r ga) (hs : starEach (e :: es) X.env = (false, eval e X.env) :: starEach es X.env := by rfl) : JXA X K R (e :: es) (tCons te t) (pCons f r) (gCn f g ga) :=
  ⟨pa_cons h.pe h2.pe hs, (ja_cons ⟨h.pe, h.pu⟩ ⟨h2.pe, h2.pu⟩ hs).pu, by
  intro O σ H ρ C Q ok er hf q
  unfold gCn at hf
  cases hg : g ρ with
  | some C' =>
    rw [hg] at hf
    cases hf
    exact h.px O σ H ρ C _ ok er hg q
  | none =>
    rw [hg] at hf
    obtain ⟨x, e1, hf⟩ := bind_some' hf
    exact h.pu O σ H ρ x _ ok er e1 fun v H1 s1 r1 => h2.px O σ H1 ρ C _ (ok.mono s1) (er.hid s1) hf fun H' s' => q H' (s1.trans s')⟩
theorem jex_tup {x1} (h : JXA X K R es t r g) : JEX X K R (.Tuple es x1 pos) (tTup t) (pTup r) g := ⟨pe_tup h.pe, (je_tup ⟨h.pe, h.pu⟩ (x1 := x1) (pos := pos)).pu, fun O σ H ρ C Q ok er hf q => h.px O σ H ρ C _ ok er hf q⟩
theorem jex_lst (h : JXA X K R es t r g) : JEX X K R (.List es pos) (tLst t) (pOfL (pLst r)) g := ⟨pe_lst h.pe, (JL.je (jl_lst ⟨h.pe, h.pu⟩ (pos := pos))).pu, fun O σ H ρ C Q ok er hf q => h.px O σ H ρ C _ ok er hf q⟩
theorem jex_if (hc : JT X K c tc pc) (ha : JEX X K R a ta fa ga) (hb : JEX X K R b tb fb gb) : JEX X K R (.IfExp c a b pos) (tIf tc ta tb) (pIf pc fa fb) (gIfE pc ga gb) := ⟨pe_ifExp hc.pe ha.pe hb.pe, (je_ifExp hc ⟨ha.pe, ha.pu⟩ ⟨hb.pe, hb.pu⟩ (pos := pos)).pu, by
  intro O σ H ρ C Q ok er hf q
  obtain ⟨x, e1, hf⟩ := bind_some' hf
  refine hc.pu O σ H ρ x _ ok er e1 fun H1 s1 => ?_
  cases x with
  | true =>
    rw [if_pos rfl] at hf ⊢
    exact ha.px O σ H1 ρ C Q (ok.mono s1) (er.hid s1) hf fun H2 s2 => q H2 (s1.trans s2)
  | false =>
    rw [if_neg Bool.false_ne_true] at hf ⊢
    exact hb.px O σ H1 ρ C Q (ok.mono s1) (er.hid s1) hf fun H2 s2 => q H2 (s1.trans s2)⟩
end
section
variable {P : Program} {w : World} {K : PySem.W.Frag} {mg : Str → Option Value} {base : Heap} {N : List Str} {qual : Str} {scope0 : Scope} {f : Addr} {cd : Value} {A : Around} {outer : List Env} {s : Shared} {H : Hp} {E : XK}
  {k n : Nat} {x : Str} {ps : List Str} {tg e iter : Expr} {es : List Expr} {t : TA} {r : PAs} {p cpos pos : Pos} {g : List D → Option Str} {fl : List D → Option D} {ifs : List Expr} {scope : Scope} {wi : TI} {gt : TG} {tc : TT} {fi : PAs} {bd : D → PEnv → Option PEnv} {pt : PB}
theorem jlx_compC (own : List Str) (fv : List (Nat × Str)) (C : Callee P w K mg base k x ps (spF K n fl)) (CX : CalleeX P w K mg base k x ps (spX K n mg g)) (hf : Takes n fl) (hg2 : Takes n g)
    (hr : Room k (A.deeper (envOfC qual scope0 s.heap.objs.size f cd)))
    (hc : (cxOf (CXE P w) P w K mg base N qual scope0 f cd A outer s H E).calm = true) (hi : JI (cxOf (CXE P w) P w K mg base N qual scope0 f cd A outer s H E) K tg iter wi fi) (fo : FvOk (cxOf (CXE P w) P w K mg base N qual scope0 f cd A outer s H E) scope fv) (gk : GKeep own.length gt)
    (bg : ∀ fp pins s' H', JG (cxComp (cxOf (CXE P w) P w K mg base N qual scope0 f cd A outer s H E) (own ++ fv.map (·.2)) scope (clF (cxOf (CXE P w) P w K mg base N qual scope0 f cd A outer s H E).env scope.names []) fp pins s' H') K tg gt bd)
    (bt : ∀ fp pins s' H', JTs (cxComp (cxOf (CXE P w) P w K mg base N qual scope0 f cd A outer s H E) (own ++ fv.map (·.2)) scope (clF (cxOf (CXE P w) P w K mg base N qual scope0 f cd A outer s H E).env scope.names []) fp pins s' H') K ifs tc pt)
    (ha : ∀ fp pins s' H', JA (cxCompX (cxOf (CXE P w) P w K mg base N qual scope0 f cd A outer s H E) (own ++ fv.map (·.2)) scope (clF (cxOf (CXE P w) P w K mg base N qual scope0 f cd A outer s H E).env scope.names []) fp pins s' H') K (e :: es) t r)
    (hgl : ∀ fp pins s' H', Gl (cxCompX (cxOf (CXE P w) P w K mg base N qual scope0 f cd A outer s H E) (own ++ fv.map (·.2)) scope (clF (cxOf (CXE P w) P w K mg base N qual scope0 f cd A outer s H E).env scope.names []) fp pins s' H') x)
    (kind : scope.kind = .function) (cell : ∀ y ∈ scope.names, y.2 ≠ .cell) (names : ∀ x ∈ scope.names, x.2 = .local → scope.names.lookup x.1 = some .local)
    (free : freeOk (cxOf (CXE P w) P w K mg base N qual scope0 f cd A outer s H E) scope = true) (hdb : (x == ("__debug__" : Str)) = false := by decide)
    (he : ∀ env, starEach (e :: es) env = (false, eval e env) :: starEach es env := by intro _; rfl) (hpl : ∀ env, (backTo cpos (starEach es env)).any (·.1) = false := by intro _; rfl)
    (hs : ∀ x, foldedSetIterable iter (cxOf (CXE P w) P w K mg base N qual scope0 f cd A outer s H E).env x = pure x := by intro _; rfl) :
    JLX (cxOf (CXE P w) P w K mg base N qual scope0 f cd A outer s H E) K (fun y H' => ∀ C, mg y = some (.ref C) → E (.ref C) none H') (.ListComp (.Call (.Name x p) (e :: es) [] cpos) [⟨tg, iter, ifs, 0⟩] scope pos)
      (tComp wi gt tc (tCallE (spF K n fl) (spX K n mg g) E t) own.length fv) (pComp fi bd pt (pCall fl r) own.length (fv.map (·.1))) (gCompX fi bd pt (pCall fl r) (gOf r g) own.length (fv.map (·.1))) := by
  have pu : PuE K (tCallE (spF K n fl) (spX K n mg g) E t) (pCall fl r) := by
    intro O σ H ρ d Q ok er h q
    obtain ⟨ds, e1, h⟩ := bind_some' h
    exact (ha [] [] s H).pu O σ H ρ ds _ ok er e1 fun vs H1 s1 r1 => .inl ⟨by rw [r1.length]; exact hf ds d h, O, ds, d, ok.mono s1, r1, h, fun v H' s' rv => q v H' (s1.trans s') rv⟩
  have px : PuEX K (fun y H' => ∀ C, mg y = some (.ref C) → E (.ref C) none H') (tCallE (spF K n fl) (spX K n mg g) E t) (gOf r g) := by
    intro O σ H ρ C Q ok er h q
    obtain ⟨ds, e1, h⟩ := bind_some' h
    exact (ha [] [] s H).pu O σ H ρ ds _ ok er e1 fun vs H1 s1 r1 => .inr ⟨by rw [r1.length]; exact hg2 ds C h, O, ds, C, ok.mono s1, r1, h, fun H' s' => q H' (s1.trans s')⟩
  refine ⟨pe_compX own fv hc hi.pe fo gk (fun fp pins s H => (bg fp pins s H).pe) (fun fp pins s H => (bt fp pins s H).pe) (fun fp pins s' H' σ I3 f3 => ?_) kind cell names free hs,
    pu_comp hi.pu (bg [] [] s H).pu (bt [] [] s H).pu pu _ _, px_comp hi.pu (bg [] [] s H).pu (bt [] [] s H).pu pu px _ _⟩
  exact pe_callE (X := cxCompX (cxOf (CXE P w) P w K mg base N qual scope0 f cd A outer s H E) (own ++ fv.map (·.2)) scope (clF (cxOf (CXE P w) P w K mg base N qual scope0 f cd A outer s H E).env scope.names []) fp pins s' H') C CX (comp_pass I3 f3) hr (hgl fp pins s' H') (ha fp pins s' H').pe hdb (he _) (hpl _)
end
end L2
set_option maxHeartbeats 4000000
namespace S38
open PySem L2 LL TX
def b_read_pair : PSt := (pSq (pSet 1 (vS (pOfL (pSplit (pVar 0) (pCon (.str ","))))))
    (pSq (pIfS (pTest (pOp dNe (pCall gLen (pCons (pVar 1) pNil)) (pCon (.int 2))))
      pNever pNx)
    (pRet (pTup (pCons (pCall m_read_number (pCons (pOp dIx (pVar 1) (pCon (.int 0))) pNil)) (pCons (pCall m_read_number (pCons (pOp dIx (pVar 1) (pCon (.int 1))) pNil)) pNil))))))
def m_read_pair : List D → Option D := runF 1 2 b_read_pair
def gx_read_pair : PEx := (gSq (pSet 1 (vS (pOfL (pSplit (pVar 0) (pCon (.str ",")))))) gNo
    (gSq (pIfS (pTest (pOp dNe (pCall gLen (pCons (pVar 1) pNil)) (pCon (.int 2))))
      pNever pNx) (gIf (pTest (pOp dNe (pCall gLen (pCons (pVar 1) pNil)) (pCon (.int 2)))) (gRaise "NoText") gNo)
    (fun ρ => (gCn (pCall m_read_number (pCons (pOp dIx (pVar 1) (pCon (.int 0))) pNil)) (gOf (pCons (pOp dIx (pVar 1) (pCon (.int 0))) pNil) mx_read_number) (gCn (pCall m_read_number (pCons (pOp dIx (pVar 1) (pCon (.int 1))) pNil)) (gOf (pCons (pOp dIx (pVar 1) (pCon (.int 1))) pNil) mx_read_number) gNon)) (full ρ))))
def mx_read_pair : List D → Option Str := runX 1 2 gx_read_pair
def b_read_place : PSt := (pRet (pIf (pTest (pOp dEq (pVar 0) (pCon (.str ".")))) (pTup pNil) (pCall m_read_pair (pCons (pVar 0) pNil))))
def m_read_place : List D → Option D := runF 1 1 b_read_place
def gx_read_place : PEx := (fun ρ => (gIfE (pTest (pOp dEq (pVar 0) (pCon (.str ".")))) gNon (gOf (pCons (pVar 0) pNil) mx_read_pair)) (full ρ))
def mx_read_place : List D → Option Str := runX 1 1 gx_read_place
def b_read_area : PSt := (pRet (pOfL (pComp (pItL (pOfL (pSplit (pVar 0) (pCon (.str " "))))) (bd1 0) pTrue (pCall m_read_place (pCons (pVar 0) pNil)) 1 [])))
def m_read_area : List D → Option D := runF 1 1 b_read_area
def gx_read_area : PEx := (fun ρ => (gCompX (pItL (pOfL (pSplit (pVar 0) (pCon (.str " "))))) (bd1 0) pTrue (pCall m_read_place (pCons (pVar 0) pNil)) (gOf (pCons (pVar 0) pNil) mx_read_place) 1 []) (full ρ))
def mx_read_area : List D → Option Str := runX 1 1 gx_read_area
def b_read_disk : PSt := (pSq (pIfS (pNotT (pTest (pIsi "str" (pVar 0))))
      pNever pNx)
    (pSq (pSet 1 (vS (pOfL (pSplit (pVar 0) (pCon (.str " / "))))))
    (pSq (pIfS (pTest (pOp dNe (pCall gLen (pCons (pVar 1) pNil)) (pCon (.int 3))))
      pNever pNx)
    (pRet (pOfL (pLst (pCons (pCall m_read_area (pCons (pOp dIx (pVar 1) (pCon (.int 0))) pNil)) (pCons (pCall m_read_area (pCons (pOp dIx (pVar 1) (pCon (.int 1))) pNil)) (pCons (pOfL (pLst (pCons (pCall m_read_pair (pCons (pOp dIx (pVar 1) (pCon (.int 2))) pNil)) pNil))) pNil)))))))))
def m_read_disk : List D → Option D := runF 1 2 b_read_disk
def gx_read_disk : PEx := (gSq (pIfS (pNotT (pTest (pIsi "str" (pVar 0))))
      pNever pNx) (gIf (pNotT (pTest (pIsi "str" (pVar 0)))) (gRaise "NoText") gNo)
    (gSq (pSet 1 (vS (pOfL (pSplit (pVar 0) (pCon (.str " / ")))))) gNo
    (gSq (pIfS (pTest (pOp dNe (pCall gLen (pCons (pVar 1) pNil)) (pCon (.int 3))))
      pNever pNx) (gIf (pTest (pOp dNe (pCall gLen (pCons (pVar 1) pNil)) (pCon (.int 3)))) (gRaise "NoText") gNo)
    (fun ρ => (gCn (pCall m_read_area (pCons (pOp dIx (pVar 1) (pCon (.int 0))) pNil)) (gOf (pCons (pOp dIx (pVar 1) (pCon (.int 0))) pNil) mx_read_area) (gCn (pCall m_read_area (pCons (pOp dIx (pVar 1) (pCon (.int 1))) pNil)) (gOf (pCons (pOp dIx (pVar 1) (pCon (.int 1))) pNil) mx_read_area) (gCn (pOfL (pLst (pCons (pCall m_read_pair (pCons (pOp dIx (pVar 1) (pCon (.int 2))) pNil)) pNil))) (gCn (pCall m_read_pair (pCons (pOp dIx (pVar 1) (pCon (.int 2))) pNil)) (gOf (pCons (pOp dIx (pVar 1) (pCon (.int 2))) pNil) mx_read_pair) gNon) gNon))) (full ρ)))))
def mx_read_disk : List D → Option Str := runX 1 2 gx_read_disk
def b__law_pair : PSt := (pSq (pSet 1 (vSL (pComp (pItL (pOfL (pSplit (pVar 0) (pCon (.str ","))))) (bd1 0) pTrue (pCall m__law_number (pCons (pVar 0) pNil)) 1 [])))
    (pSq (pIfS (pOrT (pTest (pOp dNe (pCall gLen (pCons (pVar 1) pNil)) (pCon (.int 2)))) (pTest (pOp dInD (pCon .none) (pVar 1))))
      (pRet (pCon .none)) pNx)
    (pRet (pTup (pCons (pOp dIx (pVar 1) (pCon (.int 0))) (pCons (pOp dIx (pVar 1) (pCon (.int 1))) pNil))))))
def m__law_pair : List D → Option D := runF 1 2 b__law_pair
def l__law_due_2 : PSt := (pSq (pSet 6 (vS (pCall m__law_pair (pCons (pVar 5) pNil))))
        (pSq (pIfS (pTest (pOp dEq (pVar 5) (pCon (.str "."))))
          (pSet 6 (vS (pTup pNil))) pNx)
        (pApp 4 (vS (pVar 6)))))
def l__law_due_1 : PSt := (pSq (pSet 4 (vL (pLst pNil)))
      (pSq (pFor (pItL (pOfL (pSplit (pVar 3) (pCon (.str " "))))) (bs1 5) l__law_due_2)
      (pRel 4 (pApp 2 (vS (pVar 4))))))
def b__law_due : PSt := (pSq (pSet 1 (vS (pOfL (pSplit (pVar 0) (pCon (.str " / "))))))
    (pSq (pIfS (pTest (pOp dNe (pCall gLen (pCons (pVar 1) pNil)) (pCon (.int 3))))
      (pRet (pCon .none)) pNx)
    (pSq (pSet 2 (vL (pLst pNil)))
    (pSq (pFor (pItL (pOfL (pSl (pVar 1) pNoPart (pPart (pCon (.int 2)))))) (bs1 3) l__law_due_1)
    (pSq (pApp 2 (vS (pOfL (pLst (pCons (pCall m__law_pair (pCons (pOp dIx (pVar 1) (pCon (.int 2))) pNil)) pNil)))))
    (pSq (pIfS (pOrT (pTest (pOp dInD (pCon .none) (pOp dIx (pVar 2) (pCon (.int 0))))) (pOrT (pTest (pOp dInD (pCon .none) (pOp dIx (pVar 2) (pCon (.int 1))))) (pTest (pOp dInD (pCon .none) (pOp dIx (pVar 2) (pCon (.int 2)))))))
      (pRet (pCon .none)) pNx)
    (pRet (pVar 2))))))))
def m__law_due : List D → Option D := runF 1 7 b__law_due
def l__law_text_2 : PSt := (pSq (pSet 5 (vS (pCall m__law_mixed (pCons (pVar 0) (pCons (pOp dAdd (pOp dAdd (pCon (.int 10)) (pOp dMul (pCon (.int 9)) (pVar 2))) (pVar 4)) pNil)))))
        (pSq (pSet 6 (vS (pOp dAddS (pOp dAddS (pCall gStr (pCons (pOp dSub (pOp dMod (pOp dDiv (pVar 5) (pCon (.int 4))) (pCon (.int 30))) (pCon (.int 9))) pNil)) (pCon (.str ","))) (pCall gStr (pCons (pOp dMod (pOp dDiv (pVar 5) (pCon (.int 120))) (pCon (.int 11))) pNil)))))
        (pApp 3 (vS (pOp dIx (pOfL (pLst (pCons (pCon (.str ".")) (pCons (pVar 6) pNil)))) (pCall gInt (pCons (pOp dGt (pOp dMod (pVar 5) (pCon (.int 4))) (pCon (.int 1))) pNil)))))))
def l__law_text_1 : PSt := (pSq (pSet 3 (vL (pLst pNil)))
      (pSq (pFor (pCallL gRange1 (pCons (pOp dAdd (pCon (.int 1)) (pOp dMod (pOp dDiv (pCall m__law_mixed (pCons (pVar 0) (pCons (pVar 2) pNil))) (pCon (.int 3))) (pCon (.int 5)))) pNil)) (bs1 4) l__law_text_2)
      (pApp 1 (vF (pOp dJoin (pCon (.str " ")) (pVar 3))))))
def b__law_text : PSt := (pSq (pSet 1 (vL (pLst pNil)))
    (pSq (pFor (pCallL gRange1 (pCons (pCon (.int 2)) pNil)) (bs1 2) l__law_text_1)
    (pSq (pApp 1 (vS (pOp dAddS (pOp dAddS (pCall gStr (pCons (pOp dMod (pOp dDiv (pVar 0) (pCon (.int 3))) (pCon (.int 2))) pNil)) (pCon (.str ","))) (pCall gStr (pCons (pOp dMod (pOp dDiv (pVar 0) (pCon (.int 6))) (pCon (.int 3))) pNil)))))
    (pSq (pSet 7 (vS (pOp dMod (pOp dDiv (pVar 0) (pCon (.int 18))) (pCon (.int 12)))))
    (pSq (pIfS (pTest (pOp dEq (pVar 7) (pCon (.int 0))))
      (pPopI 1 (pOp dMod (pOp dDiv (pVar 0) (pCon (.int 300))) (pCon (.int 3)))) pNx)
    (pSq (pIfS (pTest (pOp dEq (pVar 7) (pCon (.int 1))))
      (pInsT 1 (pOp dMod (pOp dDiv (pVar 0) (pCon (.int 300))) (pCon (.int 4))) (pOp dIx (pVar 1) (pCon (.int 0)))) pNx)
    (pSq (pIfS (pTest (pOp dEq (pVar 7) (pCon (.int 2))))
      (pSet 1 (vLF (pRev (pVar 1)))) pNx)
    (pRet (pOp dJoin (pCon (.str " / ")) (pVar 1))))))))))
def m__law_text : List D → Option D := runF 1 8 b__law_text
def b__law_spoilt : PSt := (pSq (pSet 2 (vS (pOp dMod (pOp dDiv (pVar 1) (pCon (.int 8))) (pOp dAdd (pCall gLenS (pCons (pVar 0) pNil)) (pCon (.int 1))))))
    (pSq (pSet 3 (vS (pOp dIx (pCon (.str " .,/-07+_a\t\n")) (pOp dMod (pOp dDiv (pVar 1) (pCon (.int 900))) (pCon (.int 12))))))
    (pSq (pIfS (pTest (pOp dLt (pOp dMod (pVar 1) (pCon (.int 8))) (pCon (.int 3))))
      (pRet (pVar 0)) pNx)
    (pSq (pIfS (pTest (pOp dLt (pOp dMod (pVar 1) (pCon (.int 8))) (pCon (.int 5))))
      (pRet (pOp dAddS (pOp dAddS (pSlS (pVar 0) pNoPart (pPart (pVar 2))) (pVar 3)) (pSlS (pVar 0) (pPart (pVar 2)) pNoPart))) pNx)
    (pSq (pIfS (pTest (pOp dLt (pOp dMod (pVar 1) (pCon (.int 8))) (pCon (.int 7))))
      (pRet (pOp dAddS (pOp dAddS (pSlS (pVar 0) pNoPart (pPart (pVar 2))) (pVar 3)) (pSlS (pVar 0) (pPart (pOp dAdd (pVar 2) (pCon (.int 1)))) pNoPart))) pNx)
    (pRet (pOp dAddS (pSlS (pVar 0) pNoPart (pPart (pVar 2))) (pSlS (pVar 0) (pPart (pOp dAdd (pVar 2) (pCon (.int 1)))) pNoPart))))))))
def m__law_spoilt : List D → Option D := runF 2 4 b__law_spoilt
def b__law_right : PSt := (pSq (pSet 2 (vS (pOfL (pLst pNil))))
    (pSq (pSet 3 (vS (pCon .none)))
    (pSq (pTryA 3 2 4 "NoText" (pCons (pVar 0) pNil) m_read_disk mx_read_disk)
    (pSq (pIfS (pTest (pOp dIsN (pVar 1) (pCon .none)))
      (pRet (pOp dEq (pVar 2) (pOfL (pLst (pCons (pCon (.bool true)) (pCons (pCon (.bool false)) (pCons (pCon (.bool true)) pNil))))))) pNx)
    (pRet (pAnd (pOp dEq (pVar 2) (pOfL (pLst pNil))) (pOp dEq (pVar 3) (pVar 1))))))))
def m__law_right : List D → Option D := runF 2 5 b__law_right
def l_law_1 : PSt := (pSq (pSet 2 (vS (pCall m__law_spoilt (pCons (pCall m__law_text (pCons (pVar 1) pNil)) (pCons (pOp dDiv (pVar 1) (pCon (.int 5))) pNil)))))
      (pSq (pIfS (pNotT (pTest (pCall m__law_right (pCons (pVar 2) (pCons (pCall m__law_due (pCons (pVar 2) pNil)) pNil)))))
        (pRet (pCon (.bool false))) pNx)
      (pSq (pSet 3 (vS (pOfL (pLst (pCons (pCon (.str "")) (pCons (pCon (.str " / ")) (pCons (pCon (.str ". / . / ")) (pCons (pCon (.str " / . / 0,0")) (pCons (pCon (.str ". / . / .")) (pCons (pCon (.str ".  . / . / 0,0")) (pCons (pCon (.str ". / . / 0,0 ")) pNil)))))))))))
      (pSq (pSet 3 (vS (pOfL (pCat (pVar 3) (pOfL (pLst (pCons (pCon (.str ". /. / 0,0")) (pCons (pCon (.str ". . 0,0")) (pCons (pCon .none) (pCons (pCon (.int 7)) (pCons (pCon (.bool true)) (pCons (pOfL (pLst (pCons (pCon (.str ". / . / 0,0")) pNil))) (pCons (pTup (pCons (pCon (.str ".")) (pCons (pCon (.str ".")) (pCons (pCon (.str "0,0")) pNil)))) (pCons (pOfL (pLst (pCons (pOfL (pLst (pCons (pTup pNil) pNil))) (pCons (pOfL (pLst (pCons (pTup pNil) pNil))) (pCons (pOfL (pLst (pCons (pTup (pCons (pCon (.int 0)) (pCons (pCon (.int 0)) pNil))) pNil))) pNil))))) pNil))))))))))))))
      (pIfS (pNotT (pTest (pCall m__law_right (pCons (pOp dIx (pVar 3) (pOp dMod (pOp dDiv (pVar 1) (pCon (.int 9))) (pCon (.int 15)))) (pCons (pCon .none) pNil)))))
        (pRet (pCon (.bool false))) pNx)))))
def b_law : PSt := (pSq (pFor (pItL (pOfL (pComp (pItL (pOfL (pCat (pOfL (pLst (pCons (pCon (.int 0)) pNil))) (pOfL (pSl (pVar 0) pNoPart (pPart (pCon (.int 15)))))))) (bd1 0) pTrue (pCall m__law_spread (pCons (pVar 0) pNil)) 1 []))) (bs1 1) l_law_1)
    (pRet (pCon (.bool true))))
def m_law : List D → Option D := runF 1 4 b_law
end S38
set_option maxHeartbeats 4000000
namespace S38
open PySem L2 LL TX
def top (i : Nat) : Stmt := PySem.Challenge.pw_gapshelf_k38_odd_disk_texts.main.body.getD i (.Pass ⟨0, 0, 0, 0⟩)
abbrev s_are_figures : Stmt := top 12
abbrev s_is_number_text : Stmt := top 13
abbrev s_read_number : Stmt := top 14
abbrev s_read_pair : Stmt := top 15
abbrev s_read_place : Stmt := top 16
abbrev s_read_area : Stmt := top 17
abbrev s_read_disk : Stmt := top 18
abbrev s__law_spread : Stmt := top 20
abbrev s__law_mixed : Stmt := top 21
abbrev s__law_number : Stmt := top 22
abbrev s__law_pair : Stmt := top 23
abbrev s__law_due : Stmt := top 24
abbrev s__law_text : Stmt := top 25
abbrev s__law_spoilt : Stmt := top 26
abbrev s__law_right : Stmt := top 27
abbrev s_law : Stmt := top 28
structure Txt (K : PySem.W.Frag) (mg : Str → Option Value) : Prop where
  n_ValueError : mg "ValueError" = none
  n_all : mg "all" = none
  n_int : mg "int" = none
  n_isinstance : mg "isinstance" = none
  n_len : mg "len" = none
  n_range : mg "range" = none
  n_str : mg "str" = none
  c_EMPTY_PLACE : ∃ t, mg "EMPTY_PLACE" = some (.str "." t)
  c_FIGURES : ∃ t, mg "FIGURES" = some (.str "0123456789" t)
  c_MOST_FIGURES : ∃ t, mg "MOST_FIGURES" = some (.int 60 t)
section
variable {P : Program} {w : World} {K : PySem.W.Frag} {mg : Str → Option Value} {base : Heap}
structure KF (K : PySem.W.Frag) (mg : Str → Option Value) (Dc C1 d1 d2 d3 d4 d5 : Addr) : Prop where
  m0 : mg "ShelfError" = some (.ref Dc)
  t1 : mg "Full" = some (.ref d1)
  t2 : mg "NoKey" = some (.ref d2)
  t3 : mg "BadBounds" = some (.ref d3)
  t4 : mg "BadDisk" = some (.ref d4)
  t5 : mg "NoRow" = some (.ref d5)
  x0 : PySem.W.excIn K Dc vmro "ValueError.__new__" = true
  x1 : PySem.W.excIn K C1 vmro "ValueError.__new__" = true
  e1 : ExcK K C1
  l1 : (PySem.W.clsIn K C1).isSome = true
  s1 : PySem.W.mroIn K C1 (.ref Dc) = some true
  kc : KC3 K mg "NoText" C1 [d1, d2, d3, d4, d5]
theorem KF.ek {K : PySem.W.Frag} {mg : Str → Option Value} {Dc C1 d1 d2 d3 d4 d5 : Addr} (kf : KF K mg Dc C1 d1 d2 d3 d4 d5) : ∀ C ∈ [C1], ExcK K C ∧ (PySem.W.clsIn K C).isSome = true ∧ PySem.W.mroIn K C (.ref Dc) = some true := fun C hC => by
  rcases List.mem_cons.mp hC with rfl | hC
  · exact ⟨kf.e1, kf.l1, kf.s1⟩
  · cases hC
theorem pv_none {K : PySem.W.Frag} {te : TE} : PuV K te (fun _ => none) := by
  intro H0 O0 G σ H ρ s Q ok t hf q
  cases hf
theorem hfn_are_figures : m_are_figures = runF 1 1 b_are_figures := by rfl
theorem sc_are_figures : FnScope ["text"] ["text"] (defScope s_are_figures) := ⟨rfl, rfl, rfl, by decide +kernel, rfl, by decide +kernel, by decide +kernel⟩
theorem ok_are_figures (D_are_figures : Def K mg "are_figures" s_are_figures ["text"]) (T : Txt K mg)  : Callee P w K mg base 1 "are_figures" ["text"] (spF K 1 m_are_figures) := by
  refine Def.pureF (hfn_are_figures) D_are_figures sc_are_figures rfl rfl fun f cdv A outer s H E hr => ?_
  have hu := hu64 hr
  exact ⟨_, (jss_one (js_ret (je_and (je_chain jo_le jo_le je_int (je_callB jc_lenS (by rfl) T.n_len (by rfl) (ja_cons (je_var 0) ja_nil)) (je_glob (i := 60) rfl T.c_MOST_FIGURES)) (je_one (je_callB (jc_all rfl hr.hd) (by rfl) T.n_all (by rfl) (ja_cons (JL.je (jl_comp ["sign"] [] rfl (ji_str (je_var 0)) trivial (gk_name (by decide)) (fun _ _ _ _ => jg_name (i := 0) (show (["sign"] : List Str).Nodup by decide +kernel) rfl (Or.inl rfl) (Or.inr rfl)) (fun _ _ _ _ => jts_nil) (fun _ _ _ _ => (je_cmp jo_inS (je_var 0) (je_globS (y := "0123456789") rfl T.c_FIGURES) (by with_unfolding_all rfl))) rfl (by decide) (by decide) (nofree (by decide)))) ja_nil))))))⟩
theorem hfn_is_number_text : m_is_number_text = runF 1 2 b_is_number_text := by rfl
theorem sc_is_number_text : FnScope ["text", "figures"] ["text"] (defScope s_is_number_text) := ⟨rfl, rfl, rfl, by decide +kernel, rfl, by decide +kernel, by decide +kernel⟩
theorem ok_is_number_text (D_is_number_text : Def K mg "is_number_text" s_is_number_text ["text"]) (T : Txt K mg) (C_are_figures : Callee P w K mg base 1 "are_figures" ["text"] (spF K 1 m_are_figures)) : Callee P w K mg base 2 "is_number_text" ["text"] (spF K 1 m_is_number_text) := by
  refine Def.pureF (hfn_is_number_text) D_is_number_text sc_is_number_text rfl rfl fun f cdv A outer s H E hr => ?_
  have hu := hu64 hr
  exact ⟨_, (jss_cons (js_if (jt_cmp (jo_eq rfl hu) (je_var 0) je_str (nomark _))
      (jss_one (js_ret je_bl)) jss_nil)
    (jss_cons (js_setS (i := 1) sc_is_number_text.nd rfl (Or.inl rfl) (je_ifExp (jt_val (je_starts rfl (je_var 0) je_str) (fun _ => rfl)) (je_sliceS (je_var 0) (jo_some je_int) jo_none) (je_var 0)))
    (jss_one (js_ret (je_and (je_callC C_are_figures (takesF _ _ _) hr rfl (ja_cons (je_var 1) ja_nil)) (je_one (je_not (je_starts rfl (je_var 1) je_str))))))))⟩
theorem hfn_read_number : m_read_number = runF 1 1 b_read_number := by rfl
theorem sc_read_number : FnScope ["text"] ["text"] (defScope s_read_number) := ⟨rfl, rfl, rfl, by decide +kernel, rfl, by decide +kernel, by decide +kernel⟩
theorem ok_read_number (D_read_number : Def K mg "read_number" s_read_number ["text"]) (T : Txt K mg) (C_is_number_text : Callee P w K mg base 2 "is_number_text" ["text"] (spF K 1 m_is_number_text)) : Callee P w K mg base 3 "read_number" ["text"] (spF K 1 m_read_number) := by
  refine Def.pureF (hfn_read_number) D_read_number sc_read_number rfl rfl fun f cdv A outer s H E hr => ?_
  have hu := hu64 hr
  exact ⟨_, (jss_cons (js_if (JW.jt (jw_or (jt_not (jt_val (je_isi "str" rfl (by simp) rfl T.n_isinstance rfl T.n_str (by rfl) (je_var 0)) (fun _ => rfl))) (jw_or1 (jt_not (jt_val (je_callC C_is_number_text (takesF _ _ _) hr rfl (ja_cons (je_var 0) ja_nil)) (fun _ => rfl))))))
      (jss_one (js_never)) jss_nil)
    (jss_one (js_ret (je_callTy jc_intS (by rfl) T.n_int (by rfl) (ja_cons (je_var 0) ja_nil)))))⟩
theorem okx_read_number (D_read_number : Def K mg "read_number" s_read_number ["text"]) (T : Txt K mg) (C_is_number_text : Callee P w K mg base 2 "is_number_text" ["text"] (spF K 1 m_is_number_text)) {CF_NoText : Addr} (hF_NoText : mg "NoText" = some (.ref CF_NoText)) (eF_NoText : PySem.W.excIn K CF_NoText vmro "ValueError.__new__" = true) : CalleeX P w K mg base 3 "read_number" ["text"] (spX K 1 mg mx_read_number) := by
  refine Def.raises (G := gx_read_number) rfl D_read_number sc_read_number rfl rfl fun f cdv A outer s H E hr => ?_
  have hu := hu64 hr
  exact ⟨_, _, (jxs_cons (jx_if (JW.jt (jw_or (jt_not (jt_val (je_isi "str" rfl (by simp) rfl T.n_isinstance rfl T.n_str (by rfl) (je_var 0)) (fun _ => rfl))) (jw_or1 (jt_not (jt_val (je_callC C_is_number_text (takesF _ _ _) hr rfl (ja_cons (je_var 0) ja_nil)) (fun _ => rfl)))))) (jxs_one (jx_raise hr.hd rfl hF_NoText eF_NoText)) (jxs_of jss_nil))
    (jxs_of (jss_one (js_ret (je_callTy jc_intS (by rfl) T.n_int (by rfl) (ja_cons (je_var 0) ja_nil))))))⟩
theorem hfn_read_pair : m_read_pair = runF 1 2 b_read_pair := by rfl
theorem sc_read_pair : FnScope ["text", "words"] ["text"] (defScope s_read_pair) := ⟨rfl, rfl, rfl, by decide +kernel, rfl, by decide +kernel, by decide +kernel⟩
theorem ok_read_pair (D_read_pair : Def K mg "read_pair" s_read_pair ["text"]) (T : Txt K mg) (C_read_number : Callee P w K mg base 3 "read_number" ["text"] (spF K 1 m_read_number)) : Callee P w K mg base 4 "read_pair" ["text"] (spF K 1 m_read_pair) := by
  refine Def.pureF (hfn_read_pair) D_read_pair sc_read_pair rfl rfl fun f cdv A outer s H E hr => ?_
  have hu := hu64 hr
  exact ⟨_, (jss_cons (js_setS (i := 1) sc_read_pair.nd rfl (Or.inl rfl) (JL.je (jl_split rfl (je_var 0) je_str)))
    (jss_cons (js_if (jt_cmp (jo_ne rfl hu) (je_callB (jc_len rfl) (by rfl) T.n_len (by rfl) (ja_cons (je_var 1) ja_nil)) je_int (nomark _))
      (jss_one (js_never)) jss_nil)
    (jss_one (js_ret (je_tup (ja_cons (je_callC C_read_number (takesF _ _ _) hr rfl (ja_cons (je_ix rfl (je_var 1) je_int (fun _ _ => rfl)) ja_nil)) (ja_cons (je_callC C_read_number (takesF _ _ _) hr rfl (ja_cons (je_ix rfl (je_var 1) je_int (fun _ _ => rfl)) ja_nil)) ja_nil)))))))⟩
theorem okx_read_pair (D_read_pair : Def K mg "read_pair" s_read_pair ["text"]) (T : Txt K mg) (C_read_number : Callee P w K mg base 3 "read_number" ["text"] (spF K 1 m_read_number)) (CX_read_number : CalleeX P w K mg base 3 "read_number" ["text"] (spX K 1 mg mx_read_number)) {CF_NoText : Addr} (hF_NoText : mg "NoText" = some (.ref CF_NoText)) (eF_NoText : PySem.W.excIn K CF_NoText vmro "ValueError.__new__" = true) : CalleeX P w K mg base 4 "read_pair" ["text"] (spX K 1 mg mx_read_pair) := by
  refine Def.raises (G := gx_read_pair) rfl D_read_pair sc_read_pair rfl rfl fun f cdv A outer s H E hr => ?_
  have hu := hu64 hr
  exact ⟨_, _, (jxs_cons (jx_of (js_setS (i := 1) sc_read_pair.nd rfl (Or.inl rfl) (JL.je (jl_split rfl (je_var 0) je_str))))
    (jxs_cons (jx_if (jt_cmp (jo_ne rfl hu) (je_callB (jc_len rfl) (by rfl) T.n_len (by rfl) (ja_cons (je_var 1) ja_nil)) je_int (nomark _)) (jxs_one (jx_raise hr.hd rfl hF_NoText eF_NoText)) (jxs_of jss_nil))
    (jxs_one (jx_retX (jex_tup (jxa_cons (jex_call C_read_number CX_read_number (takesF _ _ _) (takesX _ _ _) hr rfl (ja_cons (je_ix rfl (je_var 1) je_int (fun _ _ => rfl)) ja_nil)) (jxa_cons (jex_call C_read_number CX_read_number (takesF _ _ _) (takesX _ _ _) hr rfl (ja_cons (je_ix rfl (je_var 1) je_int (fun _ _ => rfl)) ja_nil)) jxa_nil)))))))⟩
theorem hfn_read_place : m_read_place = runF 1 1 b_read_place := by rfl
theorem sc_read_place : FnScope ["text"] ["text"] (defScope s_read_place) := ⟨rfl, rfl, rfl, by decide +kernel, rfl, by decide +kernel, by decide +kernel⟩
theorem ok_read_place (D_read_place : Def K mg "read_place" s_read_place ["text"]) (T : Txt K mg) (C_read_pair : Callee P w K mg base 4 "read_pair" ["text"] (spF K 1 m_read_pair)) : Callee P w K mg base 5 "read_place" ["text"] (spF K 1 m_read_place) := by
  refine Def.pureF (hfn_read_place) D_read_place sc_read_place rfl rfl fun f cdv A outer s H E hr => ?_
  have hu := hu64 hr
  exact ⟨_, (jss_one (js_ret (je_ifExp (jt_cmp (jo_eq rfl hu) (je_var 0) (je_globS (y := ".") rfl T.c_EMPTY_PLACE) (nomark _)) (je_tup ja_nil) (je_callC C_read_pair (takesF _ _ _) hr rfl (ja_cons (je_var 0) ja_nil)))))⟩
theorem okx_read_place (D_read_place : Def K mg "read_place" s_read_place ["text"]) (T : Txt K mg) (C_read_pair : Callee P w K mg base 4 "read_pair" ["text"] (spF K 1 m_read_pair)) (CX_read_pair : CalleeX P w K mg base 4 "read_pair" ["text"] (spX K 1 mg mx_read_pair))  : CalleeX P w K mg base 5 "read_place" ["text"] (spX K 1 mg mx_read_place) := by
  refine Def.raises (G := gx_read_place) rfl D_read_place sc_read_place rfl rfl fun f cdv A outer s H E hr => ?_
  have hu := hu64 hr
  exact ⟨_, _, (jxs_one (jx_retX (jex_if (jt_cmp (jo_eq rfl hu) (je_var 0) (je_globS (y := ".") rfl T.c_EMPTY_PLACE) (nomark _)) (jex_of (je_tup ja_nil)) (jex_call C_read_pair CX_read_pair (takesF _ _ _) (takesX _ _ _) hr rfl (ja_cons (je_var 0) ja_nil)))))⟩
theorem hfn_read_area : m_read_area = runF 1 1 b_read_area := by rfl
theorem sc_read_area : FnScope ["text"] ["text"] (defScope s_read_area) := ⟨rfl, rfl, rfl, by decide +kernel, rfl, by decide +kernel, by decide +kernel⟩
theorem ok_read_area (D_read_area : Def K mg "read_area" s_read_area ["text"]) (T : Txt K mg) (C_read_place : Callee P w K mg base 5 "read_place" ["text"] (spF K 1 m_read_place)) : Callee P w K mg base 6 "read_area" ["text"] (spF K 1 m_read_area) := by
  refine Def.pureF (hfn_read_area) D_read_area sc_read_area rfl rfl fun f cdv A outer s H E hr => ?_
  have hu := hu64 hr
  exact ⟨_, (jss_one (js_ret (JL.je (jl_comp ["word"] [] rfl (ji_list rfl (JL.je (jl_split rfl (je_var 0) je_str))) trivial (gk_name (by decide)) (fun _ _ _ _ => jg_name (i := 0) (show (["word"] : List Str).Nodup by decide +kernel) rfl (Or.inl rfl) (Or.inr rfl)) (fun _ _ _ _ => jts_nil) (fun _ _ _ _ => (je_callC C_read_place (takesF _ _ _) hr rfl (ja_cons (je_var 0) ja_nil))) rfl (by decide) (by decide) (nofree (by decide))))))⟩
theorem okx_read_area (D_read_area : Def K mg "read_area" s_read_area ["text"]) (T : Txt K mg) (C_read_place : Callee P w K mg base 5 "read_place" ["text"] (spF K 1 m_read_place)) (CX_read_place : CalleeX P w K mg base 5 "read_place" ["text"] (spX K 1 mg mx_read_place))  : CalleeX P w K mg base 6 "read_area" ["text"] (spX K 1 mg mx_read_area) := by
  refine Def.raises (G := gx_read_area) rfl D_read_area sc_read_area rfl rfl fun f cdv A outer s H E hr => ?_
  have hu := hu64 hr
  exact ⟨_, _, (jxs_one (jx_retX (JLX.jexL (jlx_compC ["word"] [] C_read_place CX_read_place (takesF _ _ _) (takesX _ _ _) hr rfl (ji_list rfl (JL.je (jl_split rfl (je_var 0) je_str))) trivial (gk_name (by decide)) (fun _ _ _ _ => jg_name (i := 0) (show (["word"] : List Str).Nodup by decide +kernel) rfl (Or.inl rfl) (Or.inr rfl)) (fun _ _ _ _ => jts_nil) (fun _ _ _ _ => (ja_cons (je_var 0) ja_nil)) (fun _ _ _ _ => rfl) rfl (by decide) (by decide) (nofree (by decide))))))⟩
theorem hfn_read_disk : m_read_disk = runF 1 2 b_read_disk := by rfl
theorem sc_read_disk : FnScope ["text", "parts"] ["text"] (defScope s_read_disk) := ⟨rfl, rfl, rfl, by decide +kernel, rfl, by decide +kernel, by decide +kernel⟩
theorem ok_read_disk (D_read_disk : Def K mg "read_disk" s_read_disk ["text"]) (T : Txt K mg) (C_read_area : Callee P w K mg base 6 "read_area" ["text"] (spF K 1 m_read_area)) (C_read_pair : Callee P w K mg base 6 "read_pair" ["text"] (spF K 1 m_read_pair)) : Callee P w K mg base 7 "read_disk" ["text"] (spF K 1 m_read_disk) := by
  refine Def.pureF (hfn_read_disk) D_read_disk sc_read_disk rfl rfl fun f cdv A outer s H E hr => ?_
  have hu := hu64 hr
  exact ⟨_, (jss_cons (js_if (jt_not (jt_val (je_isi "str" rfl (by simp) rfl T.n_isinstance rfl T.n_str (by rfl) (je_var 0)) (fun _ => rfl)))
      (jss_one (js_never)) jss_nil)
    (jss_cons (js_setS (i := 1) sc_read_disk.nd rfl (Or.inl rfl) (JL.je (jl_split rfl (je_var 0) je_str)))
    (jss_cons (js_if (jt_cmp (jo_ne rfl hu) (je_callB (jc_len rfl) (by rfl) T.n_len (by rfl) (ja_cons (je_var 1) ja_nil)) je_int (nomark _))
      (jss_one (js_never)) jss_nil)
    (jss_one (js_ret (JL.je (jl_lst (ja_cons (je_callC C_read_area (takesF _ _ _) hr rfl (ja_cons (je_ix rfl (je_var 1) je_int (fun _ _ => rfl)) ja_nil)) (ja_cons (je_callC C_read_area (takesF _ _ _) hr rfl (ja_cons (je_ix rfl (je_var 1) je_int (fun _ _ => rfl)) ja_nil)) (ja_cons (JL.je (jl_lst (ja_cons (je_callC C_read_pair (takesF _ _ _) hr rfl (ja_cons (je_ix rfl (je_var 1) je_int (fun _ _ => rfl)) ja_nil)) ja_nil))) ja_nil))))))))))⟩
theorem okx_read_disk (D_read_disk : Def K mg "read_disk" s_read_disk ["text"]) (T : Txt K mg) (C_read_area : Callee P w K mg base 6 "read_area" ["text"] (spF K 1 m_read_area)) (C_read_pair : Callee P w K mg base 6 "read_pair" ["text"] (spF K 1 m_read_pair)) (CX_read_area : CalleeX P w K mg base 6 "read_area" ["text"] (spX K 1 mg mx_read_area)) (CX_read_pair : CalleeX P w K mg base 6 "read_pair" ["text"] (spX K 1 mg mx_read_pair)) {CF_NoText : Addr} (hF_NoText : mg "NoText" = some (.ref CF_NoText)) (eF_NoText : PySem.W.excIn K CF_NoText vmro "ValueError.__new__" = true) : CalleeX P w K mg base 7 "read_disk" ["text"] (spX K 1 mg mx_read_disk) := by
  refine Def.raises (G := gx_read_disk) rfl D_read_disk sc_read_disk rfl rfl fun f cdv A outer s H E hr => ?_
  have hu := hu64 hr
  exact ⟨_, _, (jxs_cons (jx_if (jt_not (jt_val (je_isi "str" rfl (by simp) rfl T.n_isinstance rfl T.n_str (by rfl) (je_var 0)) (fun _ => rfl))) (jxs_one (jx_raise hr.hd rfl hF_NoText eF_NoText)) (jxs_of jss_nil))
    (jxs_cons (jx_of (js_setS (i := 1) sc_read_disk.nd rfl (Or.inl rfl) (JL.je (jl_split rfl (je_var 0) je_str))))
    (jxs_cons (jx_if (jt_cmp (jo_ne rfl hu) (je_callB (jc_len rfl) (by rfl) T.n_len (by rfl) (ja_cons (je_var 1) ja_nil)) je_int (nomark _)) (jxs_one (jx_raise hr.hd rfl hF_NoText eF_NoText)) (jxs_of jss_nil))
    (jxs_one (jx_retX (jex_lst (jxa_cons (jex_call C_read_area CX_read_area (takesF _ _ _) (takesX _ _ _) hr rfl (ja_cons (je_ix rfl (je_var 1) je_int (fun _ _ => rfl)) ja_nil)) (jxa_cons (jex_call C_read_area CX_read_area (takesF _ _ _) (takesX _ _ _) hr rfl (ja_cons (je_ix rfl (je_var 1) je_int (fun _ _ => rfl)) ja_nil)) (jxa_cons (jex_lst (jxa_cons (jex_call C_read_pair CX_read_pair (takesF _ _ _) (takesX _ _ _) hr rfl (ja_cons (je_ix rfl (je_var 1) je_int (fun _ _ => rfl)) ja_nil)) jxa_nil)) jxa_nil)))))))))⟩
theorem hfn__law_spread : m__law_spread = runF 1 2 b__law_spread := by rfl
theorem sc__law_spread : FnScope ["cell", "number"] ["cell"] (defScope s__law_spread) := ⟨rfl, rfl, rfl, by decide +kernel, rfl, by decide +kernel, by decide +kernel⟩
theorem ok__law_spread (D__law_spread : Def K mg "_law_spread" s__law_spread ["cell"]) (T : Txt K mg)  : Callee P w K mg base 1 "_law_spread" ["cell"] (spF K 1 m__law_spread) := by
  refine Def.pureF (hfn__law_spread) D__law_spread sc__law_spread rfl rfl fun f cdv A outer s H E hr => ?_
  have hu := hu64 hr
  exact ⟨_, (jss_cons (js_setS (i := 1) sc__law_spread.nd rfl (Or.inl rfl) (je_op jo_mod (je_op jo_mul (je_op jo_add (je_op jo_mod (je_var 0) je_int) je_int) je_int) je_int))
    (jss_one (js_ret (je_op jo_add (je_op jo_mod (je_op jo_mul (je_var 1) (je_var 1)) je_int) (je_op jo_mul (je_op jo_mod (je_var 0) (je_op jo_pow je_int je_int)) je_int)))))⟩
theorem hfn__law_mixed : m__law_mixed = runF 2 3 b__law_mixed := by rfl
theorem sc__law_mixed : FnScope ["cell", "k", "number"] ["cell", "k"] (defScope s__law_mixed) := ⟨rfl, rfl, rfl, by decide +kernel, rfl, by decide +kernel, by decide +kernel⟩
theorem ok__law_mixed (D__law_mixed : Def K mg "_law_mixed" s__law_mixed ["cell", "k"]) (T : Txt K mg)  : Callee P w K mg base 1 "_law_mixed" ["cell", "k"] (spF K 2 m__law_mixed) := by
  refine Def.pureF (hfn__law_mixed) D__law_mixed sc__law_mixed rfl rfl fun f cdv A outer s H E hr => ?_
  have hu := hu64 hr
  exact ⟨_, (jss_cons (js_setS (i := 2) sc__law_mixed.nd rfl (Or.inl rfl) (je_op jo_mod (je_op jo_mul (je_op jo_add (je_op jo_mod (je_var 0) je_int) je_int) je_int) je_int))
    (jss_cons (js_setS (i := 2) sc__law_mixed.nd rfl (Or.inl rfl) (je_op jo_mod (je_op jo_add (je_op jo_add (je_op jo_mul (je_var 2) (je_var 2)) (je_op jo_mul (je_var 1) je_int)) je_int) je_int))
    (jss_one (js_ret (je_op jo_mod (je_op jo_mul (je_var 2) (je_var 2)) je_int)))))⟩
theorem hfn__law_number : m__law_number = runF 1 4 b__law_number := by rfl
theorem sc__law_number : FnScope ["text", "figures", "number", "sign"] ["text"] (defScope s__law_number) := ⟨rfl, rfl, rfl, by decide +kernel, rfl, by decide +kernel, by decide +kernel⟩
theorem ok__law_number (D__law_number : Def K mg "_law_number" s__law_number ["text"]) (T : Txt K mg)  : Callee P w K mg base 1 "_law_number" ["text"] (spF K 1 m__law_number) := by
  refine Def.pureF (hfn__law_number) D__law_number sc__law_number rfl rfl fun f cdv A outer s H E hr => ?_
  have hu := hu64 hr
  exact ⟨_, (jss_cons (js_setS (i := 1) sc__law_number.nd rfl (Or.inl rfl) (je_var 0))
    (jss_cons (js_if (jt_cmp (jo_eq rfl hu) (je_sliceS (je_var 0) jo_none (jo_some je_int)) je_str (nomark _))
      (jss_one (js_setS (i := 1) sc__law_number.nd rfl (Or.inl rfl) (je_sliceS (je_var 0) (jo_some je_int) jo_none))) jss_nil)
    (jss_cons (js_if (JW.jt (jw_or (jt_cmp jo_lt (je_callB jc_lenS (by rfl) T.n_len (by rfl) (ja_cons (je_var 1) ja_nil)) je_int (nomark _)) (jw_or1 (jt_cmp jo_gt (je_callB jc_lenS (by rfl) T.n_len (by rfl) (ja_cons (je_var 1) ja_nil)) je_int (nomark _)))))
      (jss_one (js_ret je_non)) jss_nil)
    (jss_cons (js_setS (i := 2) sc__law_number.nd rfl (Or.inl rfl) je_int)
    (jss_cons (js_for PassesOwn.never rfl (ji_str (je_var 1)) (jgs_name (i := 3) sc__law_number.nd rfl (Or.inl rfl))
      (jss_cons (js_if (jt_cmp jo_lt (je_find rfl je_str (je_var 3)) je_int (nomark _))
        (jss_one (js_ret je_non)) jss_nil)
      (jss_one (js_setS (i := 2) sc__law_number.nd rfl (Or.inl rfl) (je_op jo_add (je_op jo_mul (je_var 2) je_int) (je_find rfl je_str (je_var 3)))))))
    (jss_cons (js_if (JW.jt (jw_and (jt_cmp (jo_eq rfl hu) (je_ix rfl (je_var 1) je_int (fun _ _ => rfl)) je_str (nomark _)) (jw_and1 (jt_cmp (jo_ne rfl hu) (je_var 0) je_str (nomark _)))))
      (jss_one (js_ret je_non)) jss_nil)
    (jss_one (js_ret (je_ix rfl (JL.je (jl_lst (ja_cons (je_var 2) (ja_cons (je_neg (je_var 2)) ja_nil)))) (je_callTy jc_int (by rfl) T.n_int (by rfl) (ja_cons (je_cmp (jo_ne rfl hu) (je_var 1) (je_var 0) (nomark _)) ja_nil)) (fun _ _ => rfl))))))))))⟩
theorem hfn__law_pair : m__law_pair = runF 1 2 b__law_pair := by rfl
theorem sc__law_pair : FnScope ["word", "numbers"] ["word"] (defScope s__law_pair) := ⟨rfl, rfl, rfl, by decide +kernel, rfl, by decide +kernel, by decide +kernel⟩
theorem ok__law_pair (D__law_pair : Def K mg "_law_pair" s__law_pair ["word"]) (T : Txt K mg) (C__law_number : Callee P w K mg base 1 "_law_number" ["text"] (spF K 1 m__law_number)) : Callee P w K mg base 2 "_law_pair" ["word"] (spF K 1 m__law_pair) := by
  refine Def.pureF (hfn__law_pair) D__law_pair sc__law_pair rfl rfl fun f cdv A outer s H E hr => ?_
  have hu := hu64 hr
  exact ⟨_, (jss_cons (js_setCompV (i := 1) vSL pv_SL ["one"] [] sc__law_pair.nd rfl (Or.inl rfl) rfl (ji_list rfl (JL.je (jl_split rfl (je_var 0) je_str))) trivial (gk_name (by decide)) (fun _ _ _ _ => jg_name (i := 0) (show (["one"] : List Str).Nodup by decide +kernel) rfl (Or.inl rfl) (Or.inr rfl)) (fun _ _ _ _ => jts_nil) (fun _ _ _ _ => (je_callC C__law_number (takesF _ _ _) hr rfl (ja_cons (je_var 0) ja_nil))) rfl (by decide) (by decide) (nofree (by decide)) (by rfl))
    (jss_cons (js_if (JW.jt (jw_or (jt_cmp (jo_ne rfl hu) (je_callB (jc_len rfl) (by rfl) T.n_len (by rfl) (ja_cons (je_var 1) ja_nil)) je_int (nomark _)) (jw_or1 (jt_cmp (jo_inD rfl (hu66 hr)) je_non (je_var 1) (by with_unfolding_all rfl)))))
      (jss_one (js_ret je_non)) jss_nil)
    (jss_one (js_ret (je_tup (ja_cons (je_ix rfl (je_var 1) je_int (fun _ _ => rfl)) (ja_cons (je_ix rfl (je_var 1) je_int (fun _ _ => rfl)) ja_nil)))))))⟩
theorem hfn__law_due : m__law_due = runF 1 7 b__law_due := by rfl
theorem sc__law_due : FnScope ["text", "parts", "disk", "part", "area", "word", "thing"] ["text"] (defScope s__law_due) := ⟨rfl, rfl, rfl, by decide +kernel, rfl, by decide +kernel, by decide +kernel⟩
theorem ok__law_due (D__law_due : Def K mg "_law_due" s__law_due ["text"]) (T : Txt K mg) (C__law_pair : Callee P w K mg base 2 "_law_pair" ["word"] (spF K 1 m__law_pair)) : Callee P w K mg base 3 "_law_due" ["text"] (spF K 1 m__law_due) := by
  refine Def.pureF (hfn__law_due) D__law_due sc__law_due rfl rfl fun f cdv A outer s H E hr => ?_
  have hu := hu64 hr
  exact ⟨_, (jss_cons (js_setS (i := 1) sc__law_due.nd rfl (Or.inl rfl) (JL.je (jl_split rfl (je_var 0) je_str)))
    (jss_cons (js_if (jt_cmp (jo_ne rfl hu) (je_callB (jc_len rfl) (by rfl) T.n_len (by rfl) (ja_cons (je_var 1) ja_nil)) je_int (nomark _))
      (jss_one (js_ret je_non)) jss_nil)
    (jss_cons (js_setL (i := 2) sc__law_due.nd rfl (Or.inl rfl) (jl_lst ja_nil))
    (jss_cons (js_for PassesOwn.never rfl (ji_list rfl (JL.je (jl_slice rfl (je_var 1) jo_none (jo_some je_int)))) (jgs_name (i := 3) sc__law_due.nd rfl (Or.inl rfl))
      (jss_cons (js_setL (i := 4) sc__law_due.nd rfl (Or.inl rfl) (jl_lst ja_nil))
      (jss_cons (js_for PassesOwn.never rfl (ji_list rfl (JL.je (jl_split rfl (je_var 3) je_str))) (jgs_name (i := 5) sc__law_due.nd rfl (Or.inl rfl))
        (jss_cons (js_setS (i := 6) sc__law_due.nd rfl (Or.inl rfl) (je_callC C__law_pair (takesF _ _ _) hr rfl (ja_cons (je_var 5) ja_nil)))
        (jss_cons (js_if (jt_cmp (jo_eq rfl hu) (je_var 5) je_str (nomark _))
          (jss_one (js_setS (i := 6) sc__law_due.nd rfl (Or.inl rfl) (je_tup ja_nil))) jss_nil)
        (jss_one (js_appS 4 (je_var 6) rfl)))))
      (jss_one (js_rel 4 (js_appS 2 (je_var 4) rfl))))))
    (jss_cons (js_appS 2 (JL.je (jl_lst (ja_cons (je_callC C__law_pair (takesF _ _ _) hr rfl (ja_cons (je_ix rfl (je_var 1) je_int (fun _ _ => rfl)) ja_nil)) ja_nil))) rfl)
    (jss_cons (js_if (JW.jt (jw_or (jt_cmp (jo_inD rfl (hu66 hr)) je_non (je_ix rfl (je_var 2) je_int (fun _ _ => rfl)) (by with_unfolding_all rfl)) (jw_or (jt_cmp (jo_inD rfl (hu66 hr)) je_non (je_ix rfl (je_var 2) je_int (fun _ _ => rfl)) (by with_unfolding_all rfl)) (jw_or1 (jt_cmp (jo_inD rfl (hu66 hr)) je_non (je_ix rfl (je_var 2) je_int (fun _ _ => rfl)) (by with_unfolding_all rfl))))))
      (jss_one (js_ret je_non)) jss_nil)
    (jss_one (js_ret (je_var 2)))))))))⟩
theorem hfn__law_text : m__law_text = runF 1 8 b__law_text := by rfl
theorem sc__law_text : FnScope ["cell", "parts", "k", "words", "place", "number", "word", "way"] ["cell"] (defScope s__law_text) := ⟨rfl, rfl, rfl, by decide +kernel, rfl, by decide +kernel, by decide +kernel⟩
theorem ok__law_text (D__law_text : Def K mg "_law_text" s__law_text ["cell"]) (T : Txt K mg) (C__law_mixed : Callee P w K mg base 1 "_law_mixed" ["cell", "k"] (spF K 2 m__law_mixed)) : Callee P w K mg base 2 "_law_text" ["cell"] (spF K 1 m__law_text) := by
  refine Def.pureF (hfn__law_text) D__law_text sc__law_text rfl rfl fun f cdv A outer s H E hr => ?_
  have hu := hu64 hr
  exact ⟨_, (jss_cons (js_setL (i := 1) sc__law_text.nd rfl (Or.inl rfl) (jl_lst ja_nil))
    (jss_cons (js_for PassesOwn.never rfl (ji_range1 rfl T.n_range (ja_cons je_int ja_nil)) (jgs_name (i := 2) sc__law_text.nd rfl (Or.inl rfl))
      (jss_cons (js_setL (i := 3) sc__law_text.nd rfl (Or.inl rfl) (jl_lst ja_nil))
      (jss_cons (js_for PassesOwn.never rfl (ji_range1 rfl T.n_range (ja_cons (je_op jo_add je_int (je_op jo_mod (je_op jo_div (je_callC C__law_mixed (takesF _ _ _) hr rfl (ja_cons (je_var 0) (ja_cons (je_var 2) ja_nil))) je_int) je_int)) ja_nil)) (jgs_name (i := 4) sc__law_text.nd rfl (Or.inl rfl))
        (jss_cons (js_setS (i := 5) sc__law_text.nd rfl (Or.inl rfl) (je_callC C__law_mixed (takesF _ _ _) hr rfl (ja_cons (je_var 0) (ja_cons (je_op jo_add (je_op jo_add je_int (je_op jo_mul je_int (je_var 2))) (je_var 4)) ja_nil))))
        (jss_cons (js_setS (i := 6) sc__law_text.nd rfl (Or.inl rfl) (je_op jo_addS (je_op jo_addS (je_callTy jc_str (by rfl) T.n_str (by rfl) (ja_cons (je_op jo_sub (je_op jo_mod (je_op jo_div (je_var 5) je_int) je_int) je_int) ja_nil)) je_str) (je_callTy jc_str (by rfl) T.n_str (by rfl) (ja_cons (je_op jo_mod (je_op jo_div (je_var 5) je_int) je_int) ja_nil))))
        (jss_one (js_appS 3 (je_ix rfl (JL.je (jl_lst (ja_cons je_str (ja_cons (je_var 6) ja_nil)))) (je_callTy jc_int (by rfl) T.n_int (by rfl) (ja_cons (je_cmp jo_gt (je_op jo_mod (je_var 5) je_int) je_int (nomark _)) ja_nil)) (fun _ _ => rfl)) rfl)))))
      (jss_one (js_appF 1 (je_join rfl je_str (je_var 3)) rfl)))))
    (jss_cons (js_appS 1 (je_op jo_addS (je_op jo_addS (je_callTy jc_str (by rfl) T.n_str (by rfl) (ja_cons (je_op jo_mod (je_op jo_div (je_var 0) je_int) je_int) ja_nil)) je_str) (je_callTy jc_str (by rfl) T.n_str (by rfl) (ja_cons (je_op jo_mod (je_op jo_div (je_var 0) je_int) je_int) ja_nil))) rfl)
    (jss_cons (js_setS (i := 7) sc__law_text.nd rfl (Or.inl rfl) (je_op jo_mod (je_op jo_div (je_var 0) je_int) je_int))
    (jss_cons (js_if (jt_cmp (jo_eq rfl hu) (je_var 7) je_int (nomark _))
      (jss_one (js_popI 1 (je_op jo_mod (je_op jo_div (je_var 0) je_int) je_int) rfl)) jss_nil)
    (jss_cons (js_if (jt_cmp (jo_eq rfl hu) (je_var 7) je_int (nomark _))
      (jss_one (js_insT 1 (je_op jo_mod (je_op jo_div (je_var 0) je_int) je_int) (je_ix rfl (je_var 1) je_int (fun _ _ => rfl)) rfl)) jss_nil)
    (jss_cons (js_if (jt_cmp (jo_eq rfl hu) (je_var 7) je_int (nomark _))
      (jss_one (js_setLF (i := 1) sc__law_text.nd rfl (Or.inl rfl) (jl_rev rfl (je_var 1)))) jss_nil)
    (jss_one (js_ret (je_join rfl je_str (je_var 1)))))))))))⟩
theorem hfn__law_spoilt : m__law_spoilt = runF 2 4 b__law_spoilt := by rfl
theorem sc__law_spoilt : FnScope ["text", "cell", "at", "sign"] ["text", "cell"] (defScope s__law_spoilt) := ⟨rfl, rfl, rfl, by decide +kernel, rfl, by decide +kernel, by decide +kernel⟩
theorem ok__law_spoilt (D__law_spoilt : Def K mg "_law_spoilt" s__law_spoilt ["text", "cell"]) (T : Txt K mg)  : Callee P w K mg base 1 "_law_spoilt" ["text", "cell"] (spF K 2 m__law_spoilt) := by
  refine Def.pureF (hfn__law_spoilt) D__law_spoilt sc__law_spoilt rfl rfl fun f cdv A outer s H E hr => ?_
  have hu := hu64 hr
  exact ⟨_, (jss_cons (js_setS (i := 2) sc__law_spoilt.nd rfl (Or.inl rfl) (je_op jo_mod (je_op jo_div (je_var 1) je_int) (je_op jo_add (je_callB jc_lenS (by rfl) T.n_len (by rfl) (ja_cons (je_var 0) ja_nil)) je_int)))
    (jss_cons (js_setS (i := 3) sc__law_spoilt.nd rfl (Or.inl rfl) (je_ix rfl je_str (je_op jo_mod (je_op jo_div (je_var 1) je_int) je_int) (fun _ _ => rfl)))
    (jss_cons (js_if (jt_cmp jo_lt (je_op jo_mod (je_var 1) je_int) je_int (nomark _))
      (jss_one (js_ret (je_var 0))) jss_nil)
    (jss_cons (js_if (jt_cmp jo_lt (je_op jo_mod (je_var 1) je_int) je_int (nomark _))
      (jss_one (js_ret (je_op jo_addS (je_op jo_addS (je_sliceS (je_var 0) jo_none (jo_some (je_var 2))) (je_var 3)) (je_sliceS (je_var 0) (jo_some (je_var 2)) jo_none)))) jss_nil)
    (jss_cons (js_if (jt_cmp jo_lt (je_op jo_mod (je_var 1) je_int) je_int (nomark _))
      (jss_one (js_ret (je_op jo_addS (je_op jo_addS (je_sliceS (je_var 0) jo_none (jo_some (je_var 2))) (je_var 3)) (je_sliceS (je_var 0) (jo_some (je_op jo_add (je_var 2) je_int)) jo_none)))) jss_nil)
    (jss_one (js_ret (je_op jo_addS (je_sliceS (je_var 0) jo_none (jo_some (je_var 2))) (je_sliceS (je_var 0) (jo_some (je_op jo_add (je_var 2) je_int)) jo_none)))))))))⟩
theorem hfn__law_right : m__law_right = runF 2 5 b__law_right := by rfl
theorem sc__law_right : FnScope ["text", "due", "kinds", "found", "e"] ["text", "due"] (defScope s__law_right) := ⟨rfl, rfl, rfl, by decide +kernel, rfl, by decide +kernel, by decide +kernel⟩
theorem ok__law_right (D__law_right : Def K mg "_law_right" s__law_right ["text", "due"]) (T : Txt K mg) (C_read_disk : Callee P w K mg base 7 "read_disk" ["text"] (spF K 1 m_read_disk)) (CX_read_disk : CalleeX P w K mg base 7 "read_disk" ["text"] (spX K 1 mg mx_read_disk)) {Dc C1 d1 d2 d3 d4 d5 : Addr} (kf : KF K mg Dc C1 d1 d2 d3 d4 d5) : Callee P w K mg base 8 "_law_right" ["text", "due"] (spF K 2 m__law_right) := by
  refine Def.pureF (hfn__law_right) D__law_right sc__law_right rfl rfl fun f cdv A outer s H E hr => ?_
  have hu := hu64 hr
  exact ⟨_, (jss_cons (js_setS (i := 2) sc__law_right.nd rfl (Or.inl rfl) (JL.je (jl_lst ja_nil)))
    (jss_cons (js_setS (i := 3) sc__law_right.nd rfl (Or.inl rfl) je_non)
    (jss_cons (js_tryA 3 2 4 kf.kc rfl rfl rfl sc__law_right.nd rfl rfl rfl kf.m0 kf.x0 (fun C hC => (kf.ek C hC).2.2) hr C_read_disk CX_read_disk rfl (ja_cons (je_var 0) ja_nil) (takesF _ _ _) (takesX _ _ _) rfl (Or.inl rfl)
      (fun a C hC => pss_cons (ps_set (i := 2) sc__law_right.nd rfl (Or.inl rfl) (pe_lst (pa_cons (pe_callB (call_isE (kf.ek C hC).1 (kf.ek C hC).2.1) (by rfl) T.n_isinstance (by rfl) (pa_cons (pv 4) (pa_cons (pe_glob rfl kf.kc.m1 rfl) pa_nil))) (pa_cons (pe_callB (call_isE (kf.ek C hC).1 (kf.ek C hC).2.1) (by rfl) T.n_isinstance (by rfl) (pa_cons (pv 4) (pa_cons (pe_tup (pa_cons (pe_glob rfl kf.t1 rfl) (pa_cons (pe_glob rfl kf.t2 rfl) (pa_cons (pe_glob rfl kf.t3 rfl) (pa_cons (pe_glob rfl kf.t4 rfl) (pa_cons (pe_glob rfl kf.t5 rfl) pa_nil)))))) pa_nil))) pa_nil)))) (pss_one (JS.pe (js_app 2 (pe_callB (call_isE (kf.ek C hC).1 (kf.ek C hC).2.1) (by rfl) T.n_isinstance (by rfl) (pa_cons (pv 4) (pa_cons (pe_bltn rfl T.n_ValueError (by rfl) rfl) pa_nil))) (pv_none (K := K)) rfl)))))
    (jss_cons (js_if (jt_cmp jo_isN (je_var 1) je_non (nomark _))
      (jss_one (js_ret (je_cmp (jo_eq rfl hu) (je_var 2) (JL.je (jl_lst (ja_cons je_bl (ja_cons je_bl (ja_cons je_bl ja_nil))))) (nomark _)))) jss_nil)
    (jss_one (js_ret (je_and (je_cmp (jo_eq rfl hu) (je_var 2) (JL.je (jl_lst ja_nil)) (nomark _)) (je_one (je_cmp (jo_eq rfl hu) (je_var 3) (je_var 1) (nomark _))))))))))⟩
theorem hfn_law : m_law = runF 1 4 b_law := by rfl
theorem sc_law : FnScope ["script", "cell", "text", "odd"] ["script"] (defScope s_law) := ⟨rfl, rfl, rfl, by decide +kernel, rfl, by decide +kernel, by decide +kernel⟩
theorem ok_law (D_law : Def K mg "law" s_law ["script"]) (T : Txt K mg) (C__law_due : Callee P w K mg base 8 "_law_due" ["text"] (spF K 1 m__law_due)) (C__law_right : Callee P w K mg base 8 "_law_right" ["text", "due"] (spF K 2 m__law_right)) (C__law_spoilt : Callee P w K mg base 8 "_law_spoilt" ["text", "cell"] (spF K 2 m__law_spoilt)) (C__law_spread : Callee P w K mg base 8 "_law_spread" ["cell"] (spF K 1 m__law_spread)) (C__law_text : Callee P w K mg base 8 "_law_text" ["cell"] (spF K 1 m__law_text)) : Callee P w K mg base 9 "law" ["script"] (spF K 1 m_law) := by
  refine Def.pureF (hfn_law) D_law sc_law rfl rfl fun f cdv A outer s H E hr => ?_
  have hu := hu64 hr
  exact ⟨_, (jss_cons (js_for PassesOwn.never rfl (ji_list rfl (JL.je (jl_comp ["one"] [] rfl (ji_list rfl (JL.je (jl_cat rfl (JL.je (jl_lst (ja_cons je_int ja_nil))) (JL.je (jl_slice rfl (je_var 0) jo_none (jo_some je_int)))))) trivial (gk_name (by decide)) (fun _ _ _ _ => jg_name (i := 0) (show (["one"] : List Str).Nodup by decide +kernel) rfl (Or.inl rfl) (Or.inr rfl)) (fun _ _ _ _ => jts_nil) (fun _ _ _ _ => (je_callC C__law_spread (takesF _ _ _) hr rfl (ja_cons (je_var 0) ja_nil))) rfl (by decide) (by decide) (nofree (by decide))))) (jgs_name (i := 1) sc_law.nd rfl (Or.inl rfl))
      (jss_cons (js_setS (i := 2) sc_law.nd rfl (Or.inl rfl) (je_callC C__law_spoilt (takesF _ _ _) hr rfl (ja_cons (je_callC C__law_text (takesF _ _ _) hr rfl (ja_cons (je_var 1) ja_nil)) (ja_cons (je_op jo_div (je_var 1) je_int) ja_nil))))
      (jss_cons (js_if (jt_not (jt_val (je_callC C__law_right (takesF _ _ _) hr rfl (ja_cons (je_var 2) (ja_cons (je_callC C__law_due (takesF _ _ _) hr rfl (ja_cons (je_var 2) ja_nil)) ja_nil))) (fun _ => rfl)))
        (jss_one (js_ret je_bl)) jss_nil)
      (jss_cons (js_setS (i := 3) sc_law.nd rfl (Or.inl rfl) (JL.je (jl_lst (ja_cons je_str (ja_cons je_str (ja_cons je_str (ja_cons je_str (ja_cons je_str (ja_cons je_str (ja_cons je_str ja_nil))))))))))
      (jss_cons (js_setS (i := 3) sc_law.nd rfl (Or.inl rfl) (JL.je (jl_cat rfl (je_var 3) (JL.je (jl_lst (ja_cons je_str (ja_cons je_str (ja_cons je_non (ja_cons je_int (ja_cons je_bl (ja_cons (JL.je (jl_lst (ja_cons je_str ja_nil))) (ja_cons (je_tup (ja_cons je_str (ja_cons je_str (ja_cons je_str ja_nil)))) (ja_cons (JL.je (jl_lst (ja_cons (JL.je (jl_lst (ja_cons (je_tup ja_nil) ja_nil))) (ja_cons (JL.je (jl_lst (ja_cons (je_tup ja_nil) ja_nil))) (ja_cons (JL.je (jl_lst (ja_cons (je_tup (ja_cons je_int (ja_cons je_int ja_nil))) ja_nil))) ja_nil))))) ja_nil)))))))))))))
      (jss_one (js_if (jt_not (jt_val (je_callC C__law_right (takesF _ _ _) hr rfl (ja_cons (je_ix rfl (je_var 3) (je_op jo_mod (je_op jo_div (je_var 1) je_int) je_int) (fun _ _ => rfl)) (ja_cons je_non ja_nil))) (fun _ => rfl)))
        (jss_one (js_ret je_bl)) jss_nil)))))))
    (jss_one (js_ret je_bl)))⟩
theorem chain {Dc C1 d1 d2 d3 d4 d5 : Addr} (kf : KF K mg Dc C1 d1 d2 d3 d4 d5) (T : Txt K mg) (hl : ∀ ns : List Int, ns.length ≤ 63 → m_law [.list (ns.map PyData.int)] = some (.bool true)) (D_are_figures : Def K mg "are_figures" s_are_figures ["text"]) (D_is_number_text : Def K mg "is_number_text" s_is_number_text ["text"]) (D_read_number : Def K mg "read_number" s_read_number ["text"]) (D_read_pair : Def K mg "read_pair" s_read_pair ["text"]) (D_read_place : Def K mg "read_place" s_read_place ["text"]) (D_read_area : Def K mg "read_area" s_read_area ["text"]) (D_read_disk : Def K mg "read_disk" s_read_disk ["text"]) (D__law_spread : Def K mg "_law_spread" s__law_spread ["cell"]) (D__law_mixed : Def K mg "_law_mixed" s__law_mixed ["cell", "k"]) (D__law_number : Def K mg "_law_number" s__law_number ["text"]) (D__law_pair : Def K mg "_law_pair" s__law_pair ["word"]) (D__law_due : Def K mg "_law_due" s__law_due ["text"]) (D__law_text : Def K mg "_law_text" s__law_text ["cell"]) (D__law_spoilt : Def K mg "_law_spoilt" s__law_spoilt ["text", "cell"]) (D__law_right : Def K mg "_law_right" s__law_right ["text", "due"]) (D_law : Def K mg "law" s_law ["script"]) : Callee P w K mg base 9 "law" ["script"] (spLawP K) := by
  have C_are_figures : Callee P w K mg base 1 "are_figures" ["text"] (spF K 1 m_are_figures) := ok_are_figures D_are_figures T
  have C_is_number_text : Callee P w K mg base 2 "is_number_text" ["text"] (spF K 1 m_is_number_text) := ok_is_number_text D_is_number_text T (C_are_figures.mono (by decide))
  have C_read_number : Callee P w K mg base 3 "read_number" ["text"] (spF K 1 m_read_number) := ok_read_number D_read_number T (C_is_number_text.mono (by decide))
  have CX_read_number : CalleeX P w K mg base 3 "read_number" ["text"] (spX K 1 mg mx_read_number) := okx_read_number D_read_number T (C_is_number_text.mono (by decide)) kf.kc.m1 kf.x1
  have C_read_pair : Callee P w K mg base 4 "read_pair" ["text"] (spF K 1 m_read_pair) := ok_read_pair D_read_pair T (C_read_number.mono (by decide))
  have CX_read_pair : CalleeX P w K mg base 4 "read_pair" ["text"] (spX K 1 mg mx_read_pair) := okx_read_pair D_read_pair T (C_read_number.mono (by decide)) (CX_read_number.mono (by decide)) kf.kc.m1 kf.x1
  have C_read_place : Callee P w K mg base 5 "read_place" ["text"] (spF K 1 m_read_place) := ok_read_place D_read_place T (C_read_pair.mono (by decide))
  have CX_read_place : CalleeX P w K mg base 5 "read_place" ["text"] (spX K 1 mg mx_read_place) := okx_read_place D_read_place T (C_read_pair.mono (by decide)) (CX_read_pair.mono (by decide))
  have C_read_area : Callee P w K mg base 6 "read_area" ["text"] (spF K 1 m_read_area) := ok_read_area D_read_area T (C_read_place.mono (by decide))
  have CX_read_area : CalleeX P w K mg base 6 "read_area" ["text"] (spX K 1 mg mx_read_area) := okx_read_area D_read_area T (C_read_place.mono (by decide)) (CX_read_place.mono (by decide))
  have C_read_disk : Callee P w K mg base 7 "read_disk" ["text"] (spF K 1 m_read_disk) := ok_read_disk D_read_disk T (C_read_area.mono (by decide)) (C_read_pair.mono (by decide))
  have CX_read_disk : CalleeX P w K mg base 7 "read_disk" ["text"] (spX K 1 mg mx_read_disk) := okx_read_disk D_read_disk T (C_read_area.mono (by decide)) (C_read_pair.mono (by decide)) (CX_read_area.mono (by decide)) (CX_read_pair.mono (by decide)) kf.kc.m1 kf.x1
  have C__law_spread : Callee P w K mg base 1 "_law_spread" ["cell"] (spF K 1 m__law_spread) := ok__law_spread D__law_spread T
  have C__law_mixed : Callee P w K mg base 1 "_law_mixed" ["cell", "k"] (spF K 2 m__law_mixed) := ok__law_mixed D__law_mixed T
  have C__law_number : Callee P w K mg base 1 "_law_number" ["text"] (spF K 1 m__law_number) := ok__law_number D__law_number T
  have C__law_pair : Callee P w K mg base 2 "_law_pair" ["word"] (spF K 1 m__law_pair) := ok__law_pair D__law_pair T (C__law_number.mono (by decide))
  have C__law_due : Callee P w K mg base 3 "_law_due" ["text"] (spF K 1 m__law_due) := ok__law_due D__law_due T (C__law_pair.mono (by decide))
  have C__law_text : Callee P w K mg base 2 "_law_text" ["cell"] (spF K 1 m__law_text) := ok__law_text D__law_text T (C__law_mixed.mono (by decide))
  have C__law_spoilt : Callee P w K mg base 1 "_law_spoilt" ["text", "cell"] (spF K 2 m__law_spoilt) := ok__law_spoilt D__law_spoilt T
  have C__law_right : Callee P w K mg base 8 "_law_right" ["text", "due"] (spF K 2 m__law_right) := ok__law_right D__law_right T (C_read_disk.mono (by decide)) (CX_read_disk.mono (by decide)) kf
  have C_law : Callee P w K mg base 9 "law" ["script"] (spF K 1 m_law) := ok_law D_law T (C__law_due.mono (by decide)) (C__law_right.mono (by decide)) (C__law_spoilt.mono (by decide)) (C__law_spread.mono (by decide)) (C__law_text.mono (by decide))
  exact C_law.law hl
end
theorem ln1 {α : Type} {us : List α} (h : us.length = 1) : ∃ a0, us = [a0] := by
  obtain _ | ⟨_, us⟩ := us
  · cases h
  obtain _ | ⟨_, us⟩ := us
  · exact ⟨_, rfl⟩
  · cases h
theorem ln2 {α : Type} {us : List α} (h : us.length = 2) : ∃ a0 a1, us = [a0, a1] := by
  obtain _ | ⟨_, us⟩ := us
  · cases h
  obtain _ | ⟨_, us⟩ := us
  · cases h
  obtain _ | ⟨_, us⟩ := us
  · exact ⟨_, _, rfl⟩
  · cases h
theorem all_mk (hl : ∀ ns : List Int, ns.length ≤ 63 → m_law [.list (ns.map PyData.int)] = some (.bool true)) {l : PySem.W.OpenLaw} {w : World} {K : PySem.W.Frag} {h : Heap} {mg : Str → Option Value} {fa : Addr} (X : K.In h) (G : h.Ns mainGlobals mg) (hfa : mg "law" = some (.ref fa))
    {u_EMPTY_PLACE : Tok}
    {u_FIGURES : Tok}
    {u_MOST_FIGURES : Tok}
    {f0 : Addr} {od0 an0 : Option Addr} {sl0 : Array (Option Value)} {oc0 kV0 dc0 pm0 cd0 ct0 : Value}
    {f1 : Addr} {od1 an1 : Option Addr} {sl1 : Array (Option Value)} {oc1 kV1 dc1 pm1 cd1 ct1 : Value}
    {f2 : Addr} {od2 an2 : Option Addr} {sl2 : Array (Option Value)} {oc2 kV2 dc2 pm2 cd2 ct2 : Value}
    {f3 : Addr} {od3 an3 : Option Addr} {sl3 : Array (Option Value)} {oc3 kV3 dc3 pm3 cd3 ct3 : Value}
    {f4 : Addr} {od4 an4 : Option Addr} {sl4 : Array (Option Value)} {oc4 kV4 dc4 pm4 cd4 ct4 : Value}
    {f5 : Addr} {od5 an5 : Option Addr} {sl5 : Array (Option Value)} {oc5 kV5 dc5 pm5 cd5 ct5 : Value}
    {f6 : Addr} {od6 an6 : Option Addr} {sl6 : Array (Option Value)} {oc6 kV6 dc6 pm6 cd6 ct6 : Value}
    {f7 : Addr} {od7 an7 : Option Addr} {sl7 : Array (Option Value)} {oc7 kV7 dc7 pm7 cd7 ct7 : Value}
    {f8 : Addr} {od8 an8 : Option Addr} {sl8 : Array (Option Value)} {oc8 kV8 dc8 pm8 cd8 ct8 : Value}
    {f9 : Addr} {od9 an9 : Option Addr} {sl9 : Array (Option Value)} {oc9 kV9 dc9 pm9 cd9 ct9 : Value}
    {f10 : Addr} {od10 an10 : Option Addr} {sl10 : Array (Option Value)} {oc10 kV10 dc10 pm10 cd10 ct10 : Value}
    {f11 : Addr} {od11 an11 : Option Addr} {sl11 : Array (Option Value)} {oc11 kV11 dc11 pm11 cd11 ct11 : Value}
    {f12 : Addr} {od12 an12 : Option Addr} {sl12 : Array (Option Value)} {oc12 kV12 dc12 pm12 cd12 ct12 : Value}
    {f13 : Addr} {od13 an13 : Option Addr} {sl13 : Array (Option Value)} {oc13 kV13 dc13 pm13 cd13 ct13 : Value}
    {f14 : Addr} {od14 an14 : Option Addr} {sl14 : Array (Option Value)} {oc14 kV14 dc14 pm14 cd14 ct14 : Value}
    {f15 : Addr} {od15 an15 : Option Addr} {sl15 : Array (Option Value)} {oc15 kV15 dc15 pm15 cd15 ct15 : Value}
    (a0 : PySem.W.nsIn K mainGlobals "are_figures" = some (some (.ref f0))) (l0 : K.lookup f0 = some ⟨oc0, od0, .func (PySem.W.fnOf "are_figures" "are_figures" (defArgs s_are_figures) (defBody s_are_figures) (defScope s_are_figures) .none kV0 dc0 pm0 an0 cd0 ct0), sl0⟩) (c0 : PySem.W.codeIn K cd0 "are_figures" = true) (k0 : PySem.W.keepIn K (.ref f0) = true)
    (a1 : PySem.W.nsIn K mainGlobals "is_number_text" = some (some (.ref f1))) (l1 : K.lookup f1 = some ⟨oc1, od1, .func (PySem.W.fnOf "is_number_text" "is_number_text" (defArgs s_is_number_text) (defBody s_is_number_text) (defScope s_is_number_text) .none kV1 dc1 pm1 an1 cd1 ct1), sl1⟩) (c1 : PySem.W.codeIn K cd1 "is_number_text" = true) (k1 : PySem.W.keepIn K (.ref f1) = true)
    (a2 : PySem.W.nsIn K mainGlobals "read_number" = some (some (.ref f2))) (l2 : K.lookup f2 = some ⟨oc2, od2, .func (PySem.W.fnOf "read_number" "read_number" (defArgs s_read_number) (defBody s_read_number) (defScope s_read_number) .none kV2 dc2 pm2 an2 cd2 ct2), sl2⟩) (c2 : PySem.W.codeIn K cd2 "read_number" = true) (k2 : PySem.W.keepIn K (.ref f2) = true)
    (a3 : PySem.W.nsIn K mainGlobals "read_pair" = some (some (.ref f3))) (l3 : K.lookup f3 = some ⟨oc3, od3, .func (PySem.W.fnOf "read_pair" "read_pair" (defArgs s_read_pair) (defBody s_read_pair) (defScope s_read_pair) .none kV3 dc3 pm3 an3 cd3 ct3), sl3⟩) (c3 : PySem.W.codeIn K cd3 "read_pair" = true) (k3 : PySem.W.keepIn K (.ref f3) = true)
    (a4 : PySem.W.nsIn K mainGlobals "read_place" = some (some (.ref f4))) (l4 : K.lookup f4 = some ⟨oc4, od4, .func (PySem.W.fnOf "read_place" "read_place" (defArgs s_read_place) (defBody s_read_place) (defScope s_read_place) .none kV4 dc4 pm4 an4 cd4 ct4), sl4⟩) (c4 : PySem.W.codeIn K cd4 "read_place" = true) (k4 : PySem.W.keepIn K (.ref f4) = true)
    (a5 : PySem.W.nsIn K mainGlobals "read_area" = some (some (.ref f5))) (l5 : K.lookup f5 = some ⟨oc5, od5, .func (PySem.W.fnOf "read_area" "read_area" (defArgs s_read_area) (defBody s_read_area) (defScope s_read_area) .none kV5 dc5 pm5 an5 cd5 ct5), sl5⟩) (c5 : PySem.W.codeIn K cd5 "read_area" = true) (k5 : PySem.W.keepIn K (.ref f5) = true)
    (a6 : PySem.W.nsIn K mainGlobals "read_disk" = some (some (.ref f6))) (l6 : K.lookup f6 = some ⟨oc6, od6, .func (PySem.W.fnOf "read_disk" "read_disk" (defArgs s_read_disk) (defBody s_read_disk) (defScope s_read_disk) .none kV6 dc6 pm6 an6 cd6 ct6), sl6⟩) (c6 : PySem.W.codeIn K cd6 "read_disk" = true) (k6 : PySem.W.keepIn K (.ref f6) = true)
    (a7 : PySem.W.nsIn K mainGlobals "_law_spread" = some (some (.ref f7))) (l7 : K.lookup f7 = some ⟨oc7, od7, .func (PySem.W.fnOf "_law_spread" "_law_spread" (defArgs s__law_spread) (defBody s__law_spread) (defScope s__law_spread) .none kV7 dc7 pm7 an7 cd7 ct7), sl7⟩) (c7 : PySem.W.codeIn K cd7 "_law_spread" = true) (k7 : PySem.W.keepIn K (.ref f7) = true)
    (a8 : PySem.W.nsIn K mainGlobals "_law_mixed" = some (some (.ref f8))) (l8 : K.lookup f8 = some ⟨oc8, od8, .func (PySem.W.fnOf "_law_mixed" "_law_mixed" (defArgs s__law_mixed) (defBody s__law_mixed) (defScope s__law_mixed) .none kV8 dc8 pm8 an8 cd8 ct8), sl8⟩) (c8 : PySem.W.codeIn K cd8 "_law_mixed" = true) (k8 : PySem.W.keepIn K (.ref f8) = true)
    (a9 : PySem.W.nsIn K mainGlobals "_law_number" = some (some (.ref f9))) (l9 : K.lookup f9 = some ⟨oc9, od9, .func (PySem.W.fnOf "_law_number" "_law_number" (defArgs s__law_number) (defBody s__law_number) (defScope s__law_number) .none kV9 dc9 pm9 an9 cd9 ct9), sl9⟩) (c9 : PySem.W.codeIn K cd9 "_law_number" = true) (k9 : PySem.W.keepIn K (.ref f9) = true)
    (a10 : PySem.W.nsIn K mainGlobals "_law_pair" = some (some (.ref f10))) (l10 : K.lookup f10 = some ⟨oc10, od10, .func (PySem.W.fnOf "_law_pair" "_law_pair" (defArgs s__law_pair) (defBody s__law_pair) (defScope s__law_pair) .none kV10 dc10 pm10 an10 cd10 ct10), sl10⟩) (c10 : PySem.W.codeIn K cd10 "_law_pair" = true) (k10 : PySem.W.keepIn K (.ref f10) = true)
    (a11 : PySem.W.nsIn K mainGlobals "_law_due" = some (some (.ref f11))) (l11 : K.lookup f11 = some ⟨oc11, od11, .func (PySem.W.fnOf "_law_due" "_law_due" (defArgs s__law_due) (defBody s__law_due) (defScope s__law_due) .none kV11 dc11 pm11 an11 cd11 ct11), sl11⟩) (c11 : PySem.W.codeIn K cd11 "_law_due" = true) (k11 : PySem.W.keepIn K (.ref f11) = true)
    (a12 : PySem.W.nsIn K mainGlobals "_law_text" = some (some (.ref f12))) (l12 : K.lookup f12 = some ⟨oc12, od12, .func (PySem.W.fnOf "_law_text" "_law_text" (defArgs s__law_text) (defBody s__law_text) (defScope s__law_text) .none kV12 dc12 pm12 an12 cd12 ct12), sl12⟩) (c12 : PySem.W.codeIn K cd12 "_law_text" = true) (k12 : PySem.W.keepIn K (.ref f12) = true)
    (a13 : PySem.W.nsIn K mainGlobals "_law_spoilt" = some (some (.ref f13))) (l13 : K.lookup f13 = some ⟨oc13, od13, .func (PySem.W.fnOf "_law_spoilt" "_law_spoilt" (defArgs s__law_spoilt) (defBody s__law_spoilt) (defScope s__law_spoilt) .none kV13 dc13 pm13 an13 cd13 ct13), sl13⟩) (c13 : PySem.W.codeIn K cd13 "_law_spoilt" = true) (k13 : PySem.W.keepIn K (.ref f13) = true)
    (a14 : PySem.W.nsIn K mainGlobals "_law_right" = some (some (.ref f14))) (l14 : K.lookup f14 = some ⟨oc14, od14, .func (PySem.W.fnOf "_law_right" "_law_right" (defArgs s__law_right) (defBody s__law_right) (defScope s__law_right) .none kV14 dc14 pm14 an14 cd14 ct14), sl14⟩) (c14 : PySem.W.codeIn K cd14 "_law_right" = true) (k14 : PySem.W.keepIn K (.ref f14) = true)
    (a15 : PySem.W.nsIn K mainGlobals "law" = some (some (.ref f15))) (l15 : K.lookup f15 = some ⟨oc15, od15, .func (PySem.W.fnOf "law" "law" (defArgs s_law) (defBody s_law) (defScope s_law) .none kV15 dc15 pm15 an15 cd15 ct15), sl15⟩) (c15 : PySem.W.codeIn K cd15 "law" = true) (k15 : PySem.W.keepIn K (.ref f15) = true)
    (z_ValueError : PySem.W.nsIn K mainGlobals "ValueError" = some none)
    (z_all : PySem.W.nsIn K mainGlobals "all" = some none)
    (z_int : PySem.W.nsIn K mainGlobals "int" = some none)
    (z_isinstance : PySem.W.nsIn K mainGlobals "isinstance" = some none)
    (z_len : PySem.W.nsIn K mainGlobals "len" = some none)
    (z_range : PySem.W.nsIn K mainGlobals "range" = some none)
    (z_str : PySem.W.nsIn K mainGlobals "str" = some none)
    (z_EMPTY_PLACE : PySem.W.nsIn K mainGlobals "EMPTY_PLACE" = some (some (.str "." u_EMPTY_PLACE)))
    (z_FIGURES : PySem.W.nsIn K mainGlobals "FIGURES" = some (some (.str "0123456789" u_FIGURES)))
    (z_MOST_FIGURES : PySem.W.nsIn K mainGlobals "MOST_FIGURES" = some (some (.int 60 u_MOST_FIGURES)))
    {Dc C1 d1 d2 d3 d4 d5 : Addr} (q0 : PySem.W.nsIn K mainGlobals "ShelfError" = some (some (.ref Dc))) (q1 : PySem.W.nsIn K mainGlobals "NoText" = some (some (.ref C1)))
    (t1 : PySem.W.nsIn K mainGlobals "Full" = some (some (.ref d1)))
    (t2 : PySem.W.nsIn K mainGlobals "NoKey" = some (some (.ref d2)))
    (t3 : PySem.W.nsIn K mainGlobals "BadBounds" = some (some (.ref d3)))
    (t4 : PySem.W.nsIn K mainGlobals "BadDisk" = some (some (.ref d4)))
    (t5 : PySem.W.nsIn K mainGlobals "NoRow" = some (some (.ref d5)))
    (x0 : PySem.W.excIn K Dc vmro "ValueError.__new__" = true) (x1 : PySem.W.excIn K C1 vmro "ValueError.__new__" = true)
    (ga1 : PySem.W.findIn K (.ref C1) "__getattribute__" = some (some (.builtin "BaseException.__getattribute__"))) (gt1 : PySem.W.findIn K (.ref C1) "__getattr__" = some none) (cl1 : PySem.W.findIn K (.ref C1) "__class__" = some (some (.builtin "object.__class__"))) (mB1 : PySem.W.mroIn K C1 (.type "BaseException") = some true) (mO1 : PySem.W.mroIn K C1 (.type "object") = some true)
    (s1 : PySem.W.mroIn K C1 (.ref Dc) = some true) (i1 : PySem.W.kitOne K (.ref C1) (.ref C1) = some true) (i3 : PySem.W.kitAny K (.ref C1) [.ref d1, .ref d2, .ref d3, .ref d4, .ref d5] = some false) (i4 : PySem.W.kitOne K (.ref C1) (.type "ValueError") = some true)
    : ∃ fd : FuncData, (∀ (s : Shared) (u : Value), BindsTo s fd ⟨[u], []⟩ [("script", u)]) ∧ ∀ base : Heap, K.In base → base.Ns mainGlobals mg → FnOk l.prog w K mg base CX0 9 fa fd ["script"] (spLawP K) := by
  have T : Txt K mg := ⟨PySem.W.mg_none_of X G z_ValueError, PySem.W.mg_none_of X G z_all, PySem.W.mg_none_of X G z_int, PySem.W.mg_none_of X G z_isinstance, PySem.W.mg_none_of X G z_len, PySem.W.mg_none_of X G z_range, PySem.W.mg_none_of X G z_str, ⟨_, PySem.W.mg_of X G z_EMPTY_PLACE⟩, ⟨_, PySem.W.mg_of X G z_FIGURES⟩, ⟨_, PySem.W.mg_of X G z_MOST_FIGURES⟩⟩
  have D_are_figures : Def K mg "are_figures" s_are_figures ["text"] := def_mk X G (fun _ _ _ _ _ _ us hl => by obtain ⟨_, rfl⟩ := ln1 hl; rfl) a0 l0 c0 k0
  have D_is_number_text : Def K mg "is_number_text" s_is_number_text ["text"] := def_mk X G (fun _ _ _ _ _ _ us hl => by obtain ⟨_, rfl⟩ := ln1 hl; rfl) a1 l1 c1 k1
  have D_read_number : Def K mg "read_number" s_read_number ["text"] := def_mk X G (fun _ _ _ _ _ _ us hl => by obtain ⟨_, rfl⟩ := ln1 hl; rfl) a2 l2 c2 k2
  have D_read_pair : Def K mg "read_pair" s_read_pair ["text"] := def_mk X G (fun _ _ _ _ _ _ us hl => by obtain ⟨_, rfl⟩ := ln1 hl; rfl) a3 l3 c3 k3
  have D_read_place : Def K mg "read_place" s_read_place ["text"] := def_mk X G (fun _ _ _ _ _ _ us hl => by obtain ⟨_, rfl⟩ := ln1 hl; rfl) a4 l4 c4 k4
  have D_read_area : Def K mg "read_area" s_read_area ["text"] := def_mk X G (fun _ _ _ _ _ _ us hl => by obtain ⟨_, rfl⟩ := ln1 hl; rfl) a5 l5 c5 k5
  have D_read_disk : Def K mg "read_disk" s_read_disk ["text"] := def_mk X G (fun _ _ _ _ _ _ us hl => by obtain ⟨_, rfl⟩ := ln1 hl; rfl) a6 l6 c6 k6
  have D__law_spread : Def K mg "_law_spread" s__law_spread ["cell"] := def_mk X G (fun _ _ _ _ _ _ us hl => by obtain ⟨_, rfl⟩ := ln1 hl; rfl) a7 l7 c7 k7
  have D__law_mixed : Def K mg "_law_mixed" s__law_mixed ["cell", "k"] := def_mk X G (fun _ _ _ _ _ _ us hl => by obtain ⟨_, _, rfl⟩ := ln2 hl; rfl) a8 l8 c8 k8
  have D__law_number : Def K mg "_law_number" s__law_number ["text"] := def_mk X G (fun _ _ _ _ _ _ us hl => by obtain ⟨_, rfl⟩ := ln1 hl; rfl) a9 l9 c9 k9
  have D__law_pair : Def K mg "_law_pair" s__law_pair ["word"] := def_mk X G (fun _ _ _ _ _ _ us hl => by obtain ⟨_, rfl⟩ := ln1 hl; rfl) a10 l10 c10 k10
  have D__law_due : Def K mg "_law_due" s__law_due ["text"] := def_mk X G (fun _ _ _ _ _ _ us hl => by obtain ⟨_, rfl⟩ := ln1 hl; rfl) a11 l11 c11 k11
  have D__law_text : Def K mg "_law_text" s__law_text ["cell"] := def_mk X G (fun _ _ _ _ _ _ us hl => by obtain ⟨_, rfl⟩ := ln1 hl; rfl) a12 l12 c12 k12
  have D__law_spoilt : Def K mg "_law_spoilt" s__law_spoilt ["text", "cell"] := def_mk X G (fun _ _ _ _ _ _ us hl => by obtain ⟨_, _, rfl⟩ := ln2 hl; rfl) a13 l13 c13 k13
  have D__law_right : Def K mg "_law_right" s__law_right ["text", "due"] := def_mk X G (fun _ _ _ _ _ _ us hl => by obtain ⟨_, _, rfl⟩ := ln2 hl; rfl) a14 l14 c14 k14
  have D_law : Def K mg "law" s_law ["script"] := def_mk X G (fun _ _ _ _ _ _ us hl => by obtain ⟨_, rfl⟩ := ln1 hl; rfl) a15 l15 c15 k15
  have cls_of : ∀ {C : Addr}, PySem.W.mroIn K C (.type "object") = some true → (PySem.W.clsIn K C).isSome = true := fun {C} e => by
    unfold PySem.W.mroIn at e
    cases q : PySem.W.clsIn K C with
    | none => rw [q] at e; cases e
    | some cd => rfl
  have y1 := cls_of mO1
  have kf : KF K mg Dc C1 d1 d2 d3 d4 d5 := ⟨PySem.W.mg_of X G q0, PySem.W.mg_of X G t1, PySem.W.mg_of X G t2, PySem.W.mg_of X G t3, PySem.W.mg_of X G t4, PySem.W.mg_of X G t5, x0, x1, ⟨ga1, gt1, cl1, mB1, mO1⟩, y1, s1, ⟨PySem.W.mg_of X G q1, i1, i3, i4, (by show 5 ≤ 1000; decide)⟩⟩
  exact law_mk D_law hfa fun base _ _ => chain kf T hl D_are_figures D_is_number_text D_read_number D_read_pair D_read_place D_read_area D_read_disk D__law_spread D__law_mixed D__law_number D__law_pair D__law_due D__law_text D__law_spoilt D__law_right D_law
end S38
set_option maxHeartbeats 4000000
namespace TX
open PySem L2 LL LT
theorem strOf_inj {a b : List Nat} (h : strOf a = strOf b) : a = b := by
  have := congrArg (fun x : Str => x.cps.toList) h
  simpa [strOf] using this
theorem okS {cs : List Nat} (h : ∀ c ∈ cs, c < 128) : SeqAt.shaped (.str (strOf cs)) = true := by
  have e : PyData.strOk (strOf cs) = true := by
    show cs.toArray.all (· < 0x110000) = true
    rw [List.all_toArray]
    exact List.all_eq_true.mpr fun c hc => decide_eq_true (by have := h c hc; omega)
  unfold SeqAt.shaped
  simp [PyData.canLay0, PyData.depth, e]
theorem eqv_S (a b : List Nat) : PyData.eqv (.str (strOf a)) (.str (strOf b)) = decide (a = b) := by
  show (strOf a == strOf b) = _
  by_cases h : a = b
  · subst h; simp
  · rw [decide_eq_false h]
    have : strOf a ≠ strOf b := fun z => h (strOf_inj z)
    simpa using this
theorem eq_S {a b : List Nat} (ha : ∀ c ∈ a, c < 128) (hb : ∀ c ∈ b, c < 128) : dEq (.str (strOf a)) (.str (strOf b)) = some (.bool (decide (a = b))) := by
  unfold dEq
  rw [if_pos ⟨okS ha, okS hb⟩, eqv_S]
theorem ne_S {a b : List Nat} (ha : ∀ c ∈ a, c < 128) (hb : ∀ c ∈ b, c < 128) : dNe (.str (strOf a)) (.str (strOf b)) = some (.bool (!decide (a = b))) := by
  unfold dNe
  rw [if_pos ⟨okS ha, okS hb⟩, eqv_S]
theorem dash_S : (("-" : String) : Str) = strOf [45] := by decide +kernel
theorem zero_S : (("0" : String) : Str) = strOf [48] := by decide +kernel
theorem asc {cs : List Nat} (h : ∀ c ∈ cs, c < 128) : (strOf cs).cps.all (· < 128) = true := by
  show cs.toArray.all (· < 128) = true
  rw [List.all_toArray]
  exact List.all_eq_true.mpr fun c hc => decide_eq_true (h c hc)
def isDig (c : Nat) : Bool := decide (48 ≤ c) && decide (c ≤ 57)
theorem isDig_iff {c : Nat} : isDig c = true ↔ 48 ≤ c ∧ c ≤ 57 := by simp [isDig]
theorem occ_all : ∀ c : Fin 128, occS false ⟨#[c.val]⟩ "0123456789" = isDig c.val := by decide +kernel
theorem find_all : ∀ c : Fin 128, Txt.find "0123456789" ⟨#[c.val]⟩ = (if isDig c.val then (((c.val - 48 : Nat)) : Int) else -1) := by decide +kernel
theorem items_S {cs : List Nat} (h : ∀ c ∈ cs, c < 128) {f : PF} {ρ : PEnv} (e : f ρ = some (.str (strOf cs))) : pItS f ρ = some (cs.map fun c => .str ⟨#[c]⟩) := by
  show (f ρ).bind _ = _
  rw [e]
  show (if (strOf cs).cps.all (· < 128) = true then some (signD (strOf cs)) else none) = _
  rw [if_pos (asc h)]
  unfold signD strOf
  simp
theorem len_S {cs : List Nat} (h : cs.length ≤ 16777216) : gLenS [.str (strOf cs)] = some (.int (cs.length : Int)) := by
  show (if (strOf cs).length ≤ sizeLine then some (PyData.int ((strOf cs).length : Int)) else none) = _
  rw [if_pos (by rw [len_strOf, show sizeLine = 16777216 from sizeLine_eq]; omega), len_strOf]
def figs (cs : List Nat) : Bool := decide (1 ≤ cs.length ∧ cs.length ≤ 60) && cs.all isDig
theorem figures_eq {cs : List Nat} (h : ∀ c ∈ cs, c < 128) (hl : cs.length < 16777216) : m_are_figures [.str (strOf cs)] = some (.bool (figs cs)) := by
  have hlen := len_S (cs := cs) (by omega)
  have hcomp : pComp (pItS (pVar 0)) (bd1 0) pTrue (pOp (dInS false) (pVar 0) (pCon (.str "0123456789"))) 1 [] [some (.str (strOf cs))] = some ((cs.map isDig).map PyData.bool) := by
    refine (comp_eq (items := cs.map fun c => .str ⟨#[c]⟩) (items_S h rfl) (by rw [List.length_map]; omega)).trans ?_
    have key : ∀ xs : List Nat, (∀ c ∈ xs, c < 128) → compP (bd1 0) pTrue (pOp (dInS false) (pVar 0) (pCon (.str "0123456789"))) [none] (xs.map fun c => PyData.str ⟨#[c]⟩) = some ((xs.map isDig).map PyData.bool) := by
      intro xs
      induction xs with
      | nil => intro _; rfl
      | cons c r ih =>
        intro hx
        rw [List.map_cons]
        unfold compP
        rw [ih fun d hd => hx d (.tail _ hd)]
        have := occ_all ⟨c, hx c (.head _)⟩
        have hd : pOp (dInS false) (pVar 0) (pCon (.str "0123456789")) [some (.str ⟨#[c]⟩)] = some (.bool (isDig c)) := by
          show some (PyData.bool (occS false ⟨#[c]⟩ "0123456789")) = _
          rw [this]
        show (Option.bind (pOp (dInS false) (pVar 0) (pCon (.str "0123456789")) [some (.str ⟨#[c]⟩)]) fun e => (some _).bind fun r => some (e :: r)) = _
        rw [hd]
        rfl
    exact key cs h
  have hall : gAll [.list ((cs.map isDig).map PyData.bool)] = some (.bool (cs.all isDig)) := by
    show (unB ((cs.map isDig).map PyData.bool)).bind _ = _
    rw [unB_map]
    show some (PyData.bool ((cs.map isDig).all id)) = _
    congr 2
    rw [List.all_map]
    rfl
  unfold figs
  refine runF_of (o := .rt (.bool _)) rfl ?_ rfl
  unfold b_are_figures
  generalize pComp (pItS (pVar 0)) (bd1 0) pTrue (pOp (dInS false) (pVar 0) (pCon (.str "0123456789"))) 1 [] = PC at *
  generalize strOf cs = S at *
  generalize (cs.map isDig).map PyData.bool = BB at *
  by_cases h1 : 1 ≤ cs.length
  · have l1 : (1 : Int) ≤ (cs.length : Int) := by omega
    by_cases h2 : cs.length ≤ 60
    · have l2 : (cs.length : Int) ≤ 60 := by omega
      clear h hl
      walk_at "pu"
    · have l2 : ¬ (cs.length : Int) ≤ 60 := by omega
      clear h hl hall hcomp
      walk_at "pu"
  · have l1 : ¬ (1 : Int) ≤ (cs.length : Int) := by omega
    have e0 : (decide (1 ≤ cs.length ∧ cs.length ≤ 60) && cs.all isDig) = false := by
      rw [decide_eq_false (fun z => h1 z.1)]
      rfl
    rw [e0]
    clear h hl hall hcomp e0
    walk_at "pu"
theorem starts_one (c d : Nat) (r : List Nat) : Txt.startswith (strOf (c :: r)) (strOf [d]) = decide (c = d) := by
  show (decide (0 + (strOf [d]).length ≤ (strOf (c :: r)).length) && Builtin.Str.subAt (strOf (c :: r)) (strOf [d]) 0) = _
  rw [len_strOf, len_strOf, decide_eq_true (by simp), Bool.true_and]
  show ((c :: r).toArray.extract 0 (0 + (strOf [d]).length) == [d].toArray) = _
  rw [len_strOf]
  have e : (c :: r).toArray.extract 0 (0 + [d].length) = [c].toArray := by
    apply Array.ext'
    simp
  rw [e]
  by_cases h : c = d
  · subst h; simp
  · rw [decide_eq_false h]
    simp [h]
def hd? (cs : List Nat) (d : Nat) : Bool := decide (cs.head? = some d)
theorem starts_S (cs : List Nat) (d : Nat) : dStarts (.str (strOf cs)) (.str (strOf [d])) = some (.bool (hd? cs d)) := by
  show some (PyData.bool (Txt.startswith (strOf cs) (strOf [d]))) = _
  unfold hd?
  cases cs with
  | nil =>
    congr 2
  | cons c r => rw [starts_one]; simp
theorem cut_from {cs : List Nat} {i : Nat} (h : i ≤ cs.length) : Txt.slice (strOf cs) (some (i : Int)) none = strOf (cs.drop i) := by
  have hl : (strOf cs).cps.toList.length = cs.length := by rw [cps_strOf]
  have e := StrLaws.sliceText_from (x := strOf cs) (i := (i : Int)) ⟨by omega, by rw [hl]; omega⟩
  have e2 : Txt.slice (strOf cs) (some (i : Int)) none = StrLaws.sliceText (strOf cs) (some (i : Int)) none := rfl
  rw [e2, e, cps_strOf]
  show (⟨((cs.drop (i : Int).toNat).take _).toArray⟩ : Str) = ⟨(cs.drop i).toArray⟩
  congr 2
  rw [Int.toNat_natCast]
  exact List.take_of_length_le (by rw [List.length_drop]; omega)
theorem cut_to {cs : List Nat} {i : Nat} (h : i ≤ cs.length) : Txt.slice (strOf cs) none (some (i : Int)) = strOf (cs.take i) := by
  have hl : (strOf cs).cps.toList.length = cs.length := by rw [cps_strOf]
  have e := StrLaws.sliceText_to (x := strOf cs) (j := (i : Int)) ⟨by omega, by rw [hl]; omega⟩
  have e2 : Txt.slice (strOf cs) none (some (i : Int)) = StrLaws.sliceText (strOf cs) none (some (i : Int)) := rfl
  rw [e2, e, cps_strOf]
  show (⟨((cs.drop 0).take _).toArray⟩ : Str) = ⟨(cs.take i).toArray⟩
  congr 2
theorem cut_next (cs : List Nat) : Txt.slice (strOf cs) (some ((cs.length : Int) + 1)) none = strOf [] := by
  have h0 : strOf [] = strOf (cs.drop cs.length) := by rw [List.drop_length]
  rw [h0, ← cut_from (Nat.le_refl _)]
  have e : Builtin.Str.strSliceIndices (some ((cs.length : Int) + 1)) none 1 cs.length = Builtin.Str.strSliceIndices (some (cs.length : Int)) none 1 cs.length := by
    unfold Builtin.Str.strSliceIndices
    simp only [show ((1 : Int) > 0) = True from by simp, if_true]
    rw [if_neg (by omega : ¬ (cs.length : Int) + 1 < 0), if_neg (by omega : ¬ (cs.length : Int) < 0)]
    have e : max (0 : Int) (min ((cs.length : Int) + 1) cs.length) = max 0 (min (cs.length : Int) cs.length) := by omega
    rw [e]
  unfold Txt.slice
  rw [len_strOf, e]
theorem cut_succ (cs : List Nat) {i : Nat} (h : i ≤ cs.length) : Txt.slice (strOf cs) (some ((i : Int) + 1)) none = strOf (cs.drop (i + 1)) := by
  by_cases e : i = cs.length
  · subst e
    rw [cut_next, List.drop_eq_nil_of_le (by omega)]
  · exact cut_from (i := i + 1) (by omega)
def fg (cs : List Nat) : List Nat := if hd? cs 45 = true then cs.drop 1 else cs
def NT (cs : List Nat) : Bool := decide (cs = [48]) || (figs (fg cs) && !hd? (fg cs) 48)
theorem fg_128 {cs : List Nat} (h : ∀ c ∈ cs, c < 128) : ∀ c ∈ fg cs, c < 128 := fun c hc => by
  unfold fg at hc
  split at hc
  · exact h c (List.mem_of_mem_drop hc)
  · exact h c hc
theorem fg_len (cs : List Nat) : (fg cs).length ≤ cs.length := by
  unfold fg
  split
  · rw [List.length_drop]; omega
  · omega
theorem hd_len {cs : List Nat} {c : Nat} (h : hd? cs c = true) : ∃ r, cs = c :: r := by
  unfold hd? at h
  have h := of_decide_eq_true h
  cases cs with
  | nil => cases h
  | cons d r => simp at h; subst h; exact ⟨r, rfl⟩
theorem one_128 {d : Nat} (hd : d < 128) : ∀ c ∈ [d], c < 128 := fun c hc => by rw [List.mem_singleton.mp hc]; exact hd
theorem number_text {cs : List Nat} (h : ∀ c ∈ cs, c < 128) (hl : cs.length < 16777216) : m_is_number_text [.str (strOf cs)] = some (.bool (NT cs)) := by
  have hsz : sizeLine = 16777216 := sizeLine_eq
  have e0 := eq_S h (one_128 (d := 48) (by decide))
  have hf := figures_eq (fg_128 h) (by have := fg_len cs; omega)
  have s0 := starts_S (fg cs) 48
  have s5 := starts_S cs 45
  rw [← zero_S] at e0 s0
  rw [← dash_S] at s5
  refine runF_of (o := .rt (.bool (NT cs))) rfl ?_ rfl
  unfold b_is_number_text NT
  by_cases hz : cs = [48]
  · rw [decide_eq_true hz] at e0 ⊢
    rw [Bool.true_or]
    generalize strOf cs = S at *
    refine sq_rt ?_
    clear hf s0 s5 hz
    walk_at "pu"
  · rw [decide_eq_false hz] at e0 ⊢
    rw [Bool.false_or]
    refine sq_nx (ρ' := [.sh (.str (strOf cs)), .no]) (by clear hf s0 s5 hz; generalize strOf cs = S at *; walk_at "pu") ?_
    refine sq_nx (ρ' := [.sh (.str (strOf cs)), .sh (.str (strOf (fg cs)))]) ?_ ?_
    · have hle : (strOf cs).length ≤ sizeLine := by rw [len_strOf]; omega
      cases hb : hd? cs 45 with
      | true =>
        rw [hb] at s5
        obtain ⟨r, hr⟩ := hd_len hb
        have hcut : Txt.slice (strOf cs) (some 1) none = strOf (fg cs) := by
          unfold fg
          rw [if_pos hb]
          exact cut_from (i := 1) (by rw [hr]; simp)
        generalize strOf cs = S at *
        generalize strOf (fg cs) = T at *
        clear hf s0 e0 hz hr hsz
        walk_at "pu"
      | false =>
        rw [hb] at s5
        have e1 : fg cs = cs := by unfold fg; rw [hb]; rfl
        rw [e1]
        generalize strOf cs = S at *
        clear hf s0 e0 hz hsz e1
        walk_at "pu"
    · generalize strOf cs = S at *
      generalize strOf (fg cs) = T at *
      cases hfb : figs (fg cs) with
      | true =>
        rw [hfb] at hf
        clear s5 e0 hz
        walk_at "pu"
      | false =>
        rw [hfb] at hf
        clear s5 e0 hz s0
        walk_at "pu"
def nv (cs : List Nat) : Int := if hd? cs 45 = true then -(NumText.digitsVal (fg cs) : Int) else (NumText.digitsVal cs : Int)
theorem NT_figs {cs : List Nat} (h : NT cs = true) : (∀ c ∈ fg cs, isDig c = true) ∧ 1 ≤ (fg cs).length ∧ (fg cs).length ≤ 60 := by
  unfold NT at h
  rcases Bool.or_eq_true_iff.mp h with h | h
  · have h := of_decide_eq_true h
    subst h
    exact ⟨by decide, by decide, by decide⟩
  · have h := (Bool.and_eq_true_iff.mp h).1
    unfold figs at h
    obtain ⟨h1, h2⟩ := Bool.and_eq_true_iff.mp h
    have h1 := of_decide_eq_true h1
    exact ⟨fun c hc => List.all_eq_true.mp h2 c hc, h1.1, h1.2⟩
theorem int_S {cs : List Nat} (h : NT cs = true) : gIntS [.str (strOf cs)] = some (.int (nv cs)) := by
  obtain ⟨hd, h1, h2⟩ := NT_figs h
  have had : NumText.AllDigits (fg cs) := fun c hc => isDig_iff.mp (hd c hc)
  have hne : fg cs ≠ [] := fun z => by rw [z] at h1; exact absurd h1 (by decide)
  have key : cs.length ≤ 61 ∧ PySem.intText? (strOf cs) = some (nv cs) := by
    cases hb : hd? cs 45 with
    | true =>
      obtain ⟨r, hr⟩ := hd_len hb
      have e1 : fg cs = r := by unfold fg; rw [if_pos hb, hr]; rfl
      have hl : cs.length ≤ 61 := by rw [e1] at h2; rw [hr]; simp; omega
      refine ⟨hl, ?_⟩
      have := intText_neg (x := strOf cs) (cs := fg cs) (by rw [cps_strOf, e1, hr]) had hne (by rw [len_strOf]; omega)
      rw [this]
      unfold nv
      rw [if_pos hb]
    | false =>
      have e1 : fg cs = cs := by unfold fg; rw [hb]; rfl
      rw [e1] at had hne h2
      refine ⟨by omega, ?_⟩
      have := intText_digits (x := strOf cs) (by rw [cps_strOf]; exact had) (by rw [cps_strOf]; exact hne) (by rw [len_strOf]; omega)
      rw [this, cps_strOf]
      unfold nv
      rw [hb]
      rfl
  show (if (strOf cs).length ≤ 640 then (PySem.intText? (strOf cs)).map PyData.int else none) = _
  rw [if_pos (by rw [len_strOf]; omega), key.2]
  rfl
theorem read_yes {cs : List Nat} (h : ∀ c ∈ cs, c < 128) (hl : cs.length < 16777216) (hn : NT cs = true) : m_read_number [.str (strOf cs)] = some (.int (nv cs)) := by
  have h1 := number_text h hl
  rw [hn] at h1
  have hg := int_S hn
  have ht : tyD (.str (strOf cs)) = "str" := rfl
  have hs : subT "str" "str" = true := rfl
  refine runF_of (o := .rt (.int (nv cs))) rfl ?_ rfl
  unfold b_read_number
  generalize strOf cs = S at *
  clear h hl hn
  walk_at "pu"
theorem gsq_some {F : PSt} {G G' : PEx} {ρ : SEnv} {C : Str} (h : G ρ = some C) : gSq F G G' ρ = some C := by
  unfold gSq
  rw [h]
theorem read_no {cs : List Nat} (h : ∀ c ∈ cs, c < 128) (hl : cs.length < 16777216) (hn : NT cs = false) : m_read_number [.str (strOf cs)] = none ∧ mx_read_number [.str (strOf cs)] = some "NoText" := by
  have h1 := number_text h hl
  rw [hn] at h1
  have ht : tyD (.str (strOf cs)) = "str" := rfl
  have hs : subT "str" "str" = true := rfl
  have hc : (pOrT (pNotT (pTest (pIsi "str" (pVar 0)))) (pNotT (pTest (pCall m_is_number_text (pCons (pVar 0) pNil))))) [some (.str (strOf cs))] = some true := by
    generalize strOf cs = S at *
    clear h hl hn
    walk_at "pu"
  constructor
  · show Option.bind (pSq (pIfS _ pNever pNx) _ [.sh (.str (strOf cs))]) _ = _
    show Option.bind (Option.bind (Option.bind ((pOrT (pNotT (pTest (pIsi "str" (pVar 0)))) (pNotT (pTest (pCall m_is_number_text (pCons (pVar 0) pNil))))) [some (.str (strOf cs))]) _) _) _ = _
    rw [hc]
    rfl
  · show gx_read_number [.sh (.str (strOf cs))] = _
    exact gsq_some (by
      show Option.bind ((pOrT (pNotT (pTest (pIsi "str" (pVar 0)))) (pNotT (pTest (pCall m_is_number_text (pCons (pVar 0) pNil))))) [some (.str (strOf cs))]) _ = _
      rw [hc]
      rfl)
theorem dfind_all {c : Nat} (h : c < 128) : dFind (.str "0123456789") (.str ⟨#[c]⟩) = some (.int (if isDig c then ((c - 48 : Nat) : Int) else -1)) := by
  show some (PyData.int (Txt.find "0123456789" ⟨#[c]⟩)) = _
  rw [find_all ⟨c, h⟩]
theorem num_loop (t f : Sl) : ∀ (xs : List Nat) (acc : Nat) (s3 : Sl), (∀ c ∈ xs, c < 128) →
    (xs.all isDig = true → ∃ s, forP (bs1 3) l__law_number_1 (xs.map fun c => .str ⟨#[c]⟩) [t, f, .sh (.int (acc : Int)), s3] = some (.nx [t, f, .sh (.int ((xs.foldl (fun acc c => acc * 10 + (c - 48)) acc : Nat) : Int)), s]))
    ∧ (xs.all isDig = false → forP (bs1 3) l__law_number_1 (xs.map fun c => .str ⟨#[c]⟩) [t, f, .sh (.int (acc : Int)), s3] = some (.rt .none)) := by
  intro xs
  induction xs with
  | nil => intro acc s3 _; exact ⟨fun _ => ⟨s3, rfl⟩, fun z => by cases z⟩
  | cons c r ih =>
    intro acc s3 h
    have hf := dfind_all (h c (.head _))
    cases hd : isDig c with
    | true =>
      rw [hd, if_pos rfl] at hf
      have hb := isDig_iff.mp hd
      have hn : ¬ ((c - 48 : Nat) : Int) < 0 := by omega
      have hm : (small (acc : Int) || small 10) = true := by rw [Bool.or_eq_true_iff]; right; decide
      have hstep : l__law_number_1 [t, f, .sh (.int (acc : Int)), .sh (.str ⟨#[c]⟩)] = some (.nx [t, f, .sh (.int ((acc * 10 + (c - 48) : Nat) : Int)), .sh (.str ⟨#[c]⟩)]) := by
        have e : ((acc * 10 + (c - 48) : Nat) : Int) = (acc : Int) * 10 + ((c - 48 : Nat) : Int) := by omega
        rw [e]
        unfold l__law_number_1
        generalize (⟨#[c]⟩ : Str) = S at *
        generalize ((c - 48 : Nat) : Int) = v at *
        have hmul : dMul (.int (acc : Int)) (.int 10) = some (.int ((acc : Int) * 10)) := by rw [dMul_int, if_pos hm]
        clear ih h hd hb e hm
        walk_at "pu"
      obtain ⟨i1, i2⟩ := ih (acc * 10 + (c - 48)) (.sh (.str ⟨#[c]⟩)) fun d hd => h d (.tail _ hd)
      rw [List.map_cons, forP_nx (ρ1 := [t, f, .sh (.int (acc : Int)), .sh (.str ⟨#[c]⟩)]) rfl hstep, List.all_cons, hd, Bool.true_and, List.foldl_cons]
      exact ⟨i1, i2⟩
    | false =>
      rw [hd] at hf
      have hf' : dFind (.str "0123456789") (.str ⟨#[c]⟩) = some (.int (-1)) := hf
      have hstep : l__law_number_1 [t, f, .sh (.int (acc : Int)), .sh (.str ⟨#[c]⟩)] = some (.rt .none) := by
        unfold l__law_number_1
        refine sq_rt ?_
        generalize (⟨#[c]⟩ : Str) = S at *
        clear ih h hd hf
        walk_at "pu"
      rw [List.map_cons, forP_rt (ρ1 := [t, f, .sh (.int (acc : Int)), .sh (.str ⟨#[c]⟩)]) rfl hstep, List.all_cons, hd]
      exact ⟨fun z => (by cases z), fun _ => rfl⟩
theorem law_number {cs : List Nat} (h : ∀ c ∈ cs, c < 128) (hl : cs.length < 16777216) : m__law_number [.str (strOf cs)] = some (if NT cs = true then .int (nv cs) else .none) := by
  have hsz : sizeLine = 16777216 := sizeLine_eq
  have hle : (strOf cs).length ≤ sizeLine := by rw [len_strOf]; omega
  have hfl := fg_len cs
  have h128 := fg_128 h
  refine runF_of (o := .rt (if NT cs = true then .int (nv cs) else .none)) rfl ?_ rfl
  unfold b__law_number
  refine sq_nx (ρ' := [.sh (.str (strOf cs)), .sh (.str (strOf cs)), .no, .no]) (by generalize strOf cs = S at *; clear hle hsz; walk_at "pu") ?_
  refine sq_nx (ρ' := [.sh (.str (strOf cs)), .sh (.str (strOf (fg cs))), .no, .no]) ?_ ?_
  · cases hc : cs with
    | nil =>
      have e1 : fg ([] : List Nat) = [] := rfl
      rw [e1]
      have e2 : Txt.slice (strOf []) none (some 1) = strOf [] := by decide +kernel
      have e3 := eq_S (a := []) (b := [45]) (fun c hc => by cases hc) (one_128 (by decide))
      rw [decide_eq_false (by simp), ← dash_S] at e3
      have hle' : (strOf []).length ≤ sizeLine := by rw [len_strOf, hsz]; decide
      generalize strOf [] = S at *
      clear hle h128 h hl hsz hc
      walk_at "pu"
    | cons c r =>
      have e2 := cut_to (cs := c :: r) (i := 1) (by simp)
      have e3 := eq_S (a := [c]) (b := [45]) (one_128 (h c (by rw [hc]; exact .head _))) (one_128 (by decide))
      rw [← dash_S] at e3
      have e4 : strOf ((c :: r).take 1) = strOf [c] := rfl
      have e5 := cut_from (cs := c :: r) (i := 1) (by simp)
      have e2' : Txt.slice (strOf (c :: r)) none (some 1) = strOf [c] := e2.trans e4
      have e5' : Txt.slice (strOf (c :: r)) (some 1) none = strOf r := e5
      rw [hc] at hle
      by_cases hd : c = 45
      · have ef : fg (c :: r) = r := by
          unfold fg hd?
          rw [if_pos (by rw [hd]; rfl)]
          rfl
        rw [ef]
        rw [decide_eq_true (by rw [hd])] at e3
        generalize strOf (c :: r) = S at *
        generalize strOf r = T at *
        generalize strOf [c] = U at *
        clear h128 h hl hsz hc e2 e4 e5 hd hfl ef
        walk_at "pu"
      · have ef : fg (c :: r) = c :: r := by
          unfold fg hd?
          rw [if_neg (by simp [hd])]
        rw [ef]
        rw [decide_eq_false (by simp [hd])] at e3
        generalize strOf (c :: r) = S at *
        generalize strOf [c] = U at *
        clear h128 h hl hsz hc e2 e4 e5 e5' hd hfl ef
        walk_at "pu"
  · have hlen := len_S (cs := fg cs) (by omega)
    by_cases hlong : 1 ≤ (fg cs).length ∧ (fg cs).length ≤ 60
    case neg =>
      have hN : NT cs = false := by
        cases q : NT cs with
        | false => rfl
        | true => exact absurd (NT_figs q).2 hlong
      rw [hN]
      refine sq_rt ?_
      show _ = some (Out.rt .none)
      generalize strOf cs = S at *
      generalize strOf (fg cs) = T at *
      clear h128 h hl hsz hle hN
      by_cases l1 : (fg cs).length < 1
      · have l1' : ((fg cs).length : Int) < 1 := by omega
        walk_at "pu"
      · have l1' : ¬ ((fg cs).length : Int) < 1 := by omega
        have l2' : ((fg cs).length : Int) > 60 := by omega
        clear hlong l1
        walk_at "pu"
    case pos =>
      have l1 : ¬ ((fg cs).length : Int) < 1 := by omega
      have l2 : ¬ ((fg cs).length : Int) > 60 := by omega
      refine sq_nx (ρ' := [.sh (.str (strOf cs)), .sh (.str (strOf (fg cs))), .no, .no]) (by generalize strOf cs = S at *; generalize strOf (fg cs) = T at *; clear hle hsz h128 h hl hlong hfl; walk_at "pu") ?_
      refine sq_nx (ρ' := [.sh (.str (strOf cs)), .sh (.str (strOf (fg cs))), .sh (.int 0), .no]) (by generalize strOf cs = S at *; generalize strOf (fg cs) = T at *; clear hle hsz h128 h hl hlong hfl hlen l1 l2; walk_at "pu") ?_
      obtain ⟨n1, n2⟩ := num_loop (.sh (.str (strOf cs))) (.sh (.str (strOf (fg cs)))) (fg cs) 0 .no h128
      cases ha : (fg cs).all isDig with
      | false =>
        have hN : NT cs = false := by
          cases q : NT cs with
          | false => rfl
          | true =>
            have := List.all_eq_true.mpr (NT_figs q).1
            rw [ha] at this
            cases this
        rw [hN]
        exact sq_rt ((for_eq (items := (fg cs).map fun c => .str ⟨#[c]⟩) (items_S h128 rfl)).trans (n2 ha))
      | true =>
        obtain ⟨s, hs⟩ := n1 ha
        refine sq_nx ((for_eq (items := (fg cs).map fun c => .str ⟨#[c]⟩) (items_S h128 rfl)).trans hs) ?_
        have hval : (fg cs).foldl (fun acc c => acc * 10 + (c - 48)) 0 = NumText.digitsVal (fg cs) := rfl
        rw [hval]
        clear hs n1 n2
        have hix : dIx (.str (strOf (fg cs))) (.int 0) = some (.str (strOf [(fg cs).headD 0])) := by
          have hlt : (strOf (fg cs)).length ≤ sizeLine := by rw [len_strOf]; omega
          show (if (strOf (fg cs)).length ≤ sizeLine then Option.map (fun c => PyData.str { cps := #[c] }) (atI (strOf (fg cs)).cps.toList 0) else none) = _
          rw [if_pos hlt, cps_strOf]
          cases hq : fg cs with
          | nil => rw [hq] at hlong; exact absurd hlong.1 (by decide)
          | cons c r => rw [atI_zero]; rfl
        have h0c : (fg cs).headD 0 < 128 := by
          cases hq : fg cs with
          | nil => decide
          | cons c r => exact h128 c (by rw [hq]; exact .head _)
        have q1 := eq_S (one_128 h0c) (one_128 (d := 48) (by decide))
        have q2 := ne_S h (one_128 (d := 48) (by decide))
        have q3 := ne_S h128 h
        rw [← zero_S] at q1 q2
        have hfig : figs (fg cs) = true := by
          unfold figs
          rw [decide_eq_true hlong, ha]
          rfl
        have hhd : decide ([(fg cs).headD 0] = [48]) = hd? (fg cs) 48 := by
          unfold hd?
          cases hq : fg cs with
          | nil => rw [hq] at hlong; exact absurd hlong.1 (by decide)
          | cons c r => simp
        rw [hhd] at q1
        have hNT : NT cs = (decide (cs = [48]) || !hd? (fg cs) 48) := by
          unfold NT
          rw [hfig, Bool.true_and]
        have hlast : (NT cs = true) → (pRet (pOp dIx (pOfL (pLst (pCons (pVar 2) (pCons (pUn dNeg (pVar 2)) pNil)))) (pCall gInt (pCons (pOp dNe (pVar 1) (pVar 0)) pNil)))) [.sh (.str (strOf cs)), .sh (.str (strOf (fg cs))), .sh (.int (NumText.digitsVal (fg cs) : Int)), s] = some (.rt (.int (nv cs))) := by
          intro _
          cases hb : hd? cs 45 with
          | true =>
            obtain ⟨r, hr⟩ := hd_len hb
            have e1 : fg cs = r := by unfold fg; rw [if_pos hb, hr]; rfl
            have hne : ¬ fg cs = cs := fun z => by
              rw [e1, hr] at z
              have := congrArg List.length z
              simp at this
            rw [decide_eq_false hne] at q3
            have hv : nv cs = -(NumText.digitsVal (fg cs) : Int) := by unfold nv; rw [if_pos hb]
            rw [hv]
            generalize (NumText.digitsVal (fg cs) : Int) = v at *
            generalize strOf cs = S at *
            generalize strOf (fg cs) = T at *
            clear q1 q2 hix hlen l1 l2 hhd hNT hv hb hle hsz
            walk_at "pu"
          | false =>
            have e1 : fg cs = cs := by unfold fg; rw [hb]; rfl
            have hv : nv cs = (NumText.digitsVal (fg cs) : Int) := by unfold nv; rw [hb, e1]; rfl
            rw [decide_eq_true e1] at q3
            rw [hv]
            generalize (NumText.digitsVal (fg cs) : Int) = v at *
            generalize strOf cs = S at *
            generalize strOf (fg cs) = T at *
            clear q1 q2 hix hlen l1 l2 hhd hNT hv hb hle hsz e1
            walk_at "pu"
        cases hz : hd? (fg cs) 48 with
        | false =>
          have hN : NT cs = true := by rw [hNT, hz]; simp
          rw [hN]
          rw [hz] at q1
          refine sq_nx (ρ' := [.sh (.str (strOf cs)), .sh (.str (strOf (fg cs))), .sh (.int (NumText.digitsVal (fg cs) : Int)), s]) ?_ (hlast hN)
          generalize (NumText.digitsVal (fg cs) : Int) = v at *
          generalize strOf cs = S at *
          generalize strOf (fg cs) = T at *
          generalize strOf [(fg cs).headD 0] = U at *
          clear q2 q3 hlast hlen l1 l2 hhd hNT hle hsz hN
          walk_at "pu"
        | true =>
          rw [hz] at q1
          by_cases hc : cs = [48]
          · have hN : NT cs = true := by rw [hNT, decide_eq_true hc]; rfl
            rw [hN]
            rw [decide_eq_true hc] at q2
            refine sq_nx (ρ' := [.sh (.str (strOf cs)), .sh (.str (strOf (fg cs))), .sh (.int (NumText.digitsVal (fg cs) : Int)), s]) ?_ (hlast hN)
            generalize (NumText.digitsVal (fg cs) : Int) = v at *
            generalize strOf cs = S at *
            generalize strOf (fg cs) = T at *
            generalize strOf [(fg cs).headD 0] = U at *
            clear q3 hlast hlen l1 l2 hhd hNT hle hsz hN hc
            walk_at "pu"
          · have hN : NT cs = false := by rw [hNT, decide_eq_false hc, hz]; rfl
            rw [hN]
            rw [decide_eq_false hc] at q2
            refine sq_rt ?_
            show _ = some (Out.rt .none)
            generalize (NumText.digitsVal (fg cs) : Int) = v at *
            generalize strOf cs = S at *
            generalize strOf (fg cs) = T at *
            generalize strOf [(fg cs).headD 0] = U at *
            clear q3 hlast hlen l1 l2 hhd hNT hle hsz hN hc
            walk_at "pu"
def dg (m : Nat) : List Nat := (Nat.toDigits 10 m).map Char.toNat
theorem dg_small {d : Nat} (h : d < 10) : dg d = [48 + d] := by
  unfold dg
  rw [Nat.toDigits_of_lt_base h]
  have : ∀ d : Nat, d < 10 → (Nat.digitChar d).toNat = 48 + d := by decide
  show [(Nat.digitChar d).toNat] = _
  rw [this d h]
theorem dg_step {m : Nat} (h : 10 ≤ m) : dg m = dg (m / 10) ++ [48 + m % 10] := by
  have hm : m % 10 < 10 := Nat.mod_lt m (by decide)
  have t : Nat.toDigits 10 (m / 10) ++ Nat.toDigits 10 (m % 10) = Nat.toDigits 10 (10 * (m / 10) + m % 10) := Nat.toDigits_append_toDigits (by decide) (by omega) hm
  rw [Nat.div_add_mod] at t
  have e := dg_small hm
  unfold dg at e ⊢
  rw [← t, List.map_append, e]
theorem dg_dig (m : Nat) : ∀ c ∈ dg m, 48 ≤ c ∧ c ≤ 57 := by
  induction m using Nat.strongRecOn with
  | _ m ih =>
    intro c hc
    by_cases h : m < 10
    · rw [dg_small h] at hc
      simp at hc
      omega
    · rw [dg_step (by omega)] at hc
      rcases List.mem_append.mp hc with hc | hc
      · exact ih (m / 10) (by omega) c hc
      · simp at hc
        omega
theorem dg_len : ∀ (k m : Nat), m < 10 ^ (k + 1) → (dg m).length ≤ k + 1
  | 0, m, h => by rw [dg_small (by simpa using h)]; simp
  | k + 1, m, h => by
    by_cases h1 : m < 10
    · rw [dg_small h1]; simp
    · rw [dg_step (by omega), List.length_append]
      have := dg_len k (m / 10) (by
        rw [Nat.div_lt_iff_lt_mul (by decide)]
        rw [Nat.pow_succ] at h
        exact h)
      simp
      omega
def num (n : Int) : List Nat := (if n < 0 then [45] else []) ++ dg n.natAbs
theorem num_128 (n : Int) : ∀ c ∈ num n, c < 128 := by
  intro c hc
  unfold num at hc
  rcases List.mem_append.mp hc with hc | hc
  · split at hc
    · rw [List.mem_singleton.mp hc]; decide
    · cases hc
  · have := dg_dig _ c hc
    omega
theorem toS (n : Int) : ((toString n : String) : Str) = strOf (num n) := by
  refine strOf_eq ?_
  show (PySem.Str.ofString (toString n)).cps.toList = _
  have sg : ∀ m : Nat, (PySem.Str.ofString (toString ((m : Nat) : Int))).cps.toList = dg m := fun m => PySem.W.KIN.signs_num m
  unfold num
  by_cases hn : n < 0
  · rw [if_pos hn]
    obtain ⟨m, rfl⟩ : ∃ m : Nat, n = Int.negSucc m := ⟨(-n - 1).toNat, by omega⟩
    rw [PyProof.Rows.signs_ofString]
    show ("-" ++ Nat.repr (m + 1)).toList.map Char.toNat = _
    rw [String.toList_append, List.map_append, Nat.toList_repr]
    rfl
  · rw [if_neg hn]
    obtain ⟨m, rfl⟩ := Int.eq_ofNat_of_zero_le (Int.not_lt.mp hn)
    rw [sg]
    rfl
theorem lg_62 {m : Nat} (h : m < 10 ^ 62) : m.log2 < 1920 := by
  by_cases h0 : m = 0
  · subst h0; decide
  · rw [Nat.log2_lt h0]
    exact Nat.lt_of_lt_of_le h (by decide)
theorem str_S {n : Int} (hn : n.natAbs < 10 ^ 62) : ∃ cs : List Nat, gStr [.int n] = some (.str (strOf cs)) ∧ (∀ c ∈ cs, c < 128) ∧ cs.length ≤ 63 := by
  refine ⟨num n, ?_, num_128 n, ?_⟩
  · show (if n.natAbs.log2 < 1920 then some (PyData.str ((toString n : String) : Str)) else none) = _
    rw [if_pos (lg_62 hn), toS]
  · unfold num
    have := dg_len 61 _ hn
    split <;> simp <;> omega
theorem addS {a b : List Nat} (h : a.length + b.length ≤ 16777216) : dAddS (.str (strOf a)) (.str (strOf b)) = some (.str (strOf (a ++ b))) := by
  show (if (strOf a).length + (strOf b).length ≤ sizeLine then some (PyData.str (strOf a ++ strOf b)) else none) = _
  rw [if_pos (by rw [len_strOf, len_strOf, show sizeLine = 16777216 from sizeLine_eq]; exact h), app_strOf]
theorem app_128 {a b : List Nat} (ha : ∀ c ∈ a, c < 128) (hb : ∀ c ∈ b, c < 128) : ∀ c ∈ a ++ b, c < 128 := fun c hc => (List.mem_append.mp hc).elim (ha c) (hb c)
theorem drop_128 {a : List Nat} (ha : ∀ c ∈ a, c < 128) (i : Nat) : ∀ c ∈ a.drop i, c < 128 := fun c hc => ha c (List.mem_of_mem_drop hc)
theorem take_128 {a : List Nat} (ha : ∀ c ∈ a, c < 128) (i : Nat) : ∀ c ∈ a.take i, c < 128 := fun c hc => ha c (List.mem_of_mem_take hc)
theorem sign_S {x : Str} {n : Nat} (hn : x.cps.toList.length = n) (hx : ∀ c ∈ x.cps.toList, c < 128) (hl : x.length ≤ sizeLine) {i : Int} (h0 : 0 ≤ i) (h1 : i < n) : ∃ c, c < 128 ∧ dIx (.str x) (.int i) = some (.str (strOf [c])) := by
  obtain ⟨c, hc, e⟩ := at_mem x.cps.toList (i := i) h0 (by rw [hn]; exact h1)
  refine ⟨c, hx c hc, ?_⟩
  show (if x.length ≤ sizeLine then Option.map (fun c => PyData.str { cps := #[c] }) (atI x.cps.toList i) else none) = _
  rw [if_pos hl, e]
  rfl
end TX
set_option maxHeartbeats 4000000
namespace S38
open PySem L2 LL LT TX
def Tx (cs : List Nat) (n : Nat) : Prop := (∀ c ∈ cs, c < 128) ∧ cs.length ≤ n
def tD (w : List Nat) : D := .str (strOf w)
def sp (y cs : List Nat) : List (List Nat) := (Txt.split (strOf cs) (strOf y)).map fun w => w.cps.toList
theorem Tx.le {cs : List Nat} {n m : Nat} (h : Tx cs n) (hm : n ≤ m) : Tx cs m := ⟨h.1, Nat.le_trans h.2 hm⟩
theorem strOf_toList (x : Str) : strOf x.cps.toList = x := by cases x; rfl
theorem jn_sub {y : List Nat} : ∀ {ws : List (List Nat)} {w : List Nat}, w ∈ ws → (∀ c ∈ w, c ∈ jn y ws) ∧ w.length ≤ (jn y ws).length
  | [], _, h => by cases h
  | [v], w, h => by rw [List.mem_singleton.mp h]; exact ⟨fun c hc => hc, Nat.le_refl _⟩
  | v :: v' :: r, w, h => by
    rw [jn_cons]
    rcases List.mem_cons.mp h with rfl | h
    · exact ⟨fun c hc => List.mem_append.mpr (.inl hc), by rw [List.length_append]; omega⟩
    · have ih := jn_sub (y := y) h
      refine ⟨fun c hc => List.mem_append.mpr (.inr (List.mem_append.mpr (.inr (ih.1 c hc)))), ?_⟩
      have := ih.2
      rw [List.length_append, List.length_append]
      omega
theorem jn_cnt {y : List Nat} (hy : 1 ≤ y.length) : ∀ ws : List (List Nat), ws.length ≤ (jn y ws).length + 1
  | [] => Nat.zero_le _
  | [v] => by show 1 ≤ _; omega
  | v :: v' :: r => by
    have ih := jn_cnt hy (v' :: r)
    rw [jn_cons, List.length_append, List.length_append, List.length_cons]
    omega
theorem sp_map (y cs : List Nat) : Txt.split (strOf cs) (strOf y) = (sp y cs).map strOf := by
  unfold sp
  rw [List.map_map]
  exact (List.map_id' _).symm.trans (List.map_congr_left fun w _ => (strOf_toList w).symm)
theorem sp_jn (y cs : List Nat) : jn y (sp y cs) = cs := by
  have h := PySem.StrLaws.join_split (strOf cs) (strOf y)
  rw [sp_map] at h
  have h2 := join_strOf y (sp y cs)
  have h3 : Txt.join (strOf y) ((sp y cs).map strOf) = Str.join (strOf y) ((sp y cs).map strOf) := PySem.StrLaws.glued_eq_join _ _
  rw [h3, h] at h2
  exact (strOf_inj h2).symm
theorem sp_ok {y cs : List Nat} {n : Nat} (hy : 1 ≤ y.length) (h : Tx cs n) (hn : n ≤ 100000) : dSplit (tD cs) (tD y) = some ((sp y cs).map tD) ∧ (∀ w ∈ sp y cs, Tx w n) ∧ (sp y cs).length ≤ n + 1 := by
  have hj := sp_jn y cs
  have hc := jn_cnt hy (sp y cs)
  rw [hj] at hc
  have h2 := h.2
  have hsz : sizeLine = 16777216 := sizeLine_eq
  refine ⟨?_, fun w hw => ?_, by omega⟩
  · show (if SplitOk (strOf cs) (strOf y) then some ((Txt.split (strOf cs) (strOf y)).map PyData.str) else none) = _
    have hk : SplitOk (strOf cs) (strOf y) := by
      refine ⟨?_, ?_, ?_⟩
      · rw [len_strOf]
        cases y with
        | nil => cases hy
        | cons a y => rfl
      · rw [len_strOf, hsz]; omega
      · rw [sp_map, List.length_map, hsz]; omega
    rw [if_pos hk, sp_map, List.map_map]
    rfl
  · have := jn_sub (y := y) hw
    rw [hj] at this
    exact ⟨fun c hc => h.1 c (this.1 c hc), by omega⟩
theorem comma_S : ((",": String) : Str) = strOf [44] := by decide +kernel
theorem dot_S : ((".": String) : Str) = strOf [46] := by decide +kernel
theorem space_S : ((" ": String) : Str) = strOf [32] := by decide +kernel
theorem slash_S : ((" / ": String) : Str) = strOf [32, 47, 32] := by decide +kernel
def pr? (cs : List Nat) : Option Pr := match sp [44] cs with
  | [a, b] => if NT a = true ∧ NT b = true then some (nv a, nv b) else none
  | _ => none
def pl? (cs : List Nat) : Option Thing := if cs = [46] then some none else (pr? cs).map some
def allS {β : Type} : List (Option β) → Option (List β)
  | [] => some []
  | none :: _ => none
  | some a :: r => (allS r).map (a :: ·)
def ar? (cs : List Nat) : Option (List Thing) := allS ((sp [32] cs).map pl?)
def aD (ts : List Thing) : D := .list (ts.map encD)
def kD (k : List (List Thing)) : D := .list (k.map aD)
theorem enc_A : EncOk aD 2 := enc_T.list
theorem enc_Kd : EncOk kD 3 := enc_A.list
def dk? (cs : List Nat) : Option (List (List Thing)) := match sp [32, 47, 32] cs with
  | [a, b, c] => match ar? a, ar? b, pr? c with
    | some A, some B, some p => some [A, B, [some p]]
    | _, _, _ => none
  | _ => none
def Rd (m : Option D) (x : Option Str) : Option D → Prop
  | some d => m = some d
  | none => m = none ∧ x = some (Str.ofString "NoText")
def Rx (m : Option D) (x : Option Str) (o : Option D) : Prop := Rd m x o ∧ ∀ d, o = some d → x = none
theorem gsq_nx {F : PSt} {G G' : PEx} {ρ ρ' : SEnv} (h : G ρ = none) (hf : F ρ = some (.nx ρ')) : gSq F G G' ρ = G' ρ' := by
  unfold gSq
  rw [h, hf]
  rfl
theorem runF_none {n m : Nat} {F : PSt} {ds : List D} (hl : ds.length = n) (h : F (startP m ds) = none) : runF n m F ds = none := by
  unfold runF
  rw [if_pos hl, h]
  rfl
theorem sq_no {F F' : PSt} {ρ : SEnv} (h : F ρ = none) : pSq F F' ρ = none := by
  unfold pSq
  rw [h]
  rfl
theorem rd_number {cs : List Nat} {n : Nat} (h : Tx cs n) (hn : n ≤ 100000) : Rd (m_read_number [tD cs]) (mx_read_number [tD cs]) (if NT cs = true then some (.int (nv cs)) else none) := by
  have hl : cs.length < 16777216 := by have := h.2; omega
  by_cases hc : NT cs = true
  · rw [if_pos hc]
    exact read_yes h.1 hl hc
  · rw [if_neg hc]
    exact read_no h.1 hl (by simpa using hc)
theorem Rd.yes {m : Option D} {x : Option Str} {d : D} (h : Rd m x (some d)) : m = some d := h
theorem rd_two {fa fb : PF} {ga gb : PXe} {ρ : PEnv} {a b : Option D} (ha : Rd (fa ρ) (ga ρ) a) (hxa : ∀ d, a = some d → ga ρ = none) (hb : Rd (fb ρ) (gb ρ) b) (hxb : ∀ d, b = some d → gb ρ = none) :
    Rd (pTup (pCons fa (pCons fb pNil)) ρ) (gCn fa ga (gCn fb gb gNon) ρ) (a.bind fun x => b.map fun y => .tuple [x, y]) := by
  cases a with
  | none =>
    refine ⟨by simp only [pTup, pCons, ha.1, bnd_none], ?_⟩
    unfold gCn
    rw [ha.2]
  | some x =>
    have ha := ha.yes
    cases b with
    | none =>
      refine ⟨by simp only [pTup, pCons, ha, hb.1, bnd_some, bnd_none], ?_⟩
      unfold gCn
      simp only [hxa x rfl, ha, bnd_some, hb.2]
    | some y =>
      show pTup (pCons fa (pCons fb pNil)) ρ = some (.tuple [x, y])
      simp only [pTup, pCons, pNil, ha, hb.yes, bnd_some]
      rfl
theorem mxn_none {cs : List Nat} {n : Nat} (h : Tx cs n) (hn : n ≤ 100000) (hc : NT cs = true) : mx_read_number [tD cs] = none := by
  have h1 := number_text h.1 (by have := h.2; omega)
  rw [hc] at h1
  have ht : tyD (.str (strOf cs)) = "str" := rfl
  have hs : subT "str" "str" = true := rfl
  have hcc : (pOrT (pNotT (pTest (pIsi "str" (pVar 0)))) (pNotT (pTest (pCall m_is_number_text (pCons (pVar 0) pNil))))) [some (.str (strOf cs))] = some false := by
    generalize strOf cs = S at *
    clear h hn hc
    walk_at "pu"
  show gx_read_number [.sh (.str (strOf cs))] = none
  refine gsq_nx (ρ' := [.sh (.str (strOf cs))]) ?_ ?_
  · show Option.bind ((pOrT (pNotT (pTest (pIsi "str" (pVar 0)))) (pNotT (pTest (pCall m_is_number_text (pCons (pVar 0) pNil))))) [some (.str (strOf cs))]) _ = _
    rw [hcc]
    rfl
  · show Option.bind ((pOrT (pNotT (pTest (pIsi "str" (pVar 0)))) (pNotT (pTest (pCall m_is_number_text (pCons (pVar 0) pNil))))) [some (.str (strOf cs))]) _ = _
    rw [hcc]
    rfl
theorem two_of {α : Type} {xs : List α} (h : xs.length = 2) : ∃ a b, xs = [a, b] := by
  match xs, h with
  | [a, b], _ => exact ⟨a, b, rfl⟩
theorem three_of {α : Type} {xs : List α} (h : xs.length = 3) : ∃ a b c, xs = [a, b, c] := by
  match xs, h with
  | [a, b, c], _ => exact ⟨a, b, c, rfl⟩
theorem pr_no {cs : List Nat} (h : (sp [44] cs).length ≠ 2) : pr? cs = none := by
  unfold pr?
  split
  · rename_i a b e
    rw [e] at h
    exact absurd rfl h
  · rfl
theorem rd_pair {cs : List Nat} {n : Nat} (h : Tx cs n) (hn : n ≤ 100000) : Rx (m_read_pair [tD cs]) (mx_read_pair [tD cs]) ((pr? cs).map fun p => encD (some p)) := by
  obtain ⟨hs, hw, hl⟩ := sp_ok (y := [44]) (by decide) h hn
  have e1 : pSet 1 (vS (pOfL (pSplit (pVar 0) (pCon (.str ","))))) [.sh (tD cs), .no] = some (.nx [.sh (tD cs), .sh (.list ((sp [44] cs).map tD))]) := by
    rw [comma_S]
    show Option.bind (Option.bind (Option.map PyData.list (dSplit (tD cs) (tD [44]))) _) _ = _
    rw [hs]
    rfl
  have hlen : ((sp [44] cs).map tD).length < 16777216 := by rw [List.length_map]; omega
  have hlm : ((sp [44] cs).map tD).length = (sp [44] cs).length := List.length_map ..
  have ec : ∀ b, decide (((sp [44] cs).length : Int) = 2) = b → (pTest (pOp dNe (pCall gLen (pCons (pVar 1) pNil)) (pCon (.int 2)))) [some (tD cs), some (.list ((sp [44] cs).map tD))] = some (!b) := by
    intro b hb
    subst hb
    generalize tD cs = T at *
    generalize (sp [44] cs).map tD = W at *
    rw [← hlm]
    clear hs hw hl e1 hlm h hn
    walk_at "pu"
  by_cases h2 : (sp [44] cs).length = 2
  · have ec' := ec true (decide_eq_true (by rw [h2]; rfl))
    obtain ⟨a, b, hab⟩ := two_of h2
    have ha := hw a (by rw [hab]; simp)
    have hb := hw b (by rw [hab]; simp)
    have st : pIfS (pTest (pOp dNe (pCall gLen (pCons (pVar 1) pNil)) (pCon (.int 2)))) pNever pNx [.sh (tD cs), .sh (.list ((sp [44] cs).map tD))] = some (.nx [.sh (tD cs), .sh (.list ((sp [44] cs).map tD))]) := by
      show Option.bind ((pTest (pOp dNe (pCall gLen (pCons (pVar 1) pNil)) (pCon (.int 2)))) [some (tD cs), some (.list ((sp [44] cs).map tD))]) _ = _
      rw [ec']
      rfl
    have sg : gIf (pTest (pOp dNe (pCall gLen (pCons (pVar 1) pNil)) (pCon (.int 2)))) (gRaise "NoText") gNo [.sh (tD cs), .sh (.list ((sp [44] cs).map tD))] = none := by
      show Option.bind ((pTest (pOp dNe (pCall gLen (pCons (pVar 1) pNil)) (pCon (.int 2)))) [some (tD cs), some (.list ((sp [44] cs).map tD))]) _ = _
      rw [ec']
      rfl
    have ep : pr? cs = if NT a = true ∧ NT b = true then some (nv a, nv b) else none := by
      unfold pr?
      rw [hab]
    have xa : (pOp dIx (pVar 1) (pCon (.int 0))) [some (tD cs), some (.list ((sp [44] cs).map tD))] = some (tD a) := by rw [hab]; rfl
    have xb : (pOp dIx (pVar 1) (pCon (.int 1))) [some (tD cs), some (.list ((sp [44] cs).map tD))] = some (tD b) := by rw [hab]; rfl
    have fa : ∀ (i : Int) (v : List Nat), (pOp dIx (pVar 1) (pCon (.int i))) [some (tD cs), some (.list ((sp [44] cs).map tD))] = some (tD v) → (pCall m_read_number (pCons (pOp dIx (pVar 1) (pCon (.int i))) pNil)) [some (tD cs), some (.list ((sp [44] cs).map tD))] = m_read_number [tD v] ∧
        (gOf (pCons (pOp dIx (pVar 1) (pCon (.int i))) pNil) mx_read_number) [some (tD cs), some (.list ((sp [44] cs).map tD))] = mx_read_number [tD v] := by
      intro i v hv
      constructor
      · show Option.bind (Option.bind ((pOp dIx (pVar 1) (pCon (.int i))) [some (tD cs), some (.list ((sp [44] cs).map tD))]) _) _ = _
        rw [hv]
        rfl
      · show Option.bind (Option.bind ((pOp dIx (pVar 1) (pCon (.int i))) [some (tD cs), some (.list ((sp [44] cs).map tD))]) _) _ = _
        rw [hv]
        rfl
    have key := rd_two (fa := pCall m_read_number (pCons (pOp dIx (pVar 1) (pCon (.int 0))) pNil)) (fb := pCall m_read_number (pCons (pOp dIx (pVar 1) (pCon (.int 1))) pNil)) (ga := gOf (pCons (pOp dIx (pVar 1) (pCon (.int 0))) pNil) mx_read_number) (gb := gOf (pCons (pOp dIx (pVar 1) (pCon (.int 1))) pNil) mx_read_number)
      (ρ := [some (tD cs), some (.list ((sp [44] cs).map tD))]) (a := if NT a = true then some (.int (nv a)) else none) (b := if NT b = true then some (.int (nv b)) else none)
      (by rw [(fa 0 a xa).1, (fa 0 a xa).2]; exact rd_number ha hn) (fun d hd => by rw [(fa 0 a xa).2]; exact mxn_none ha hn (by by_cases z : NT a = true; exact z; rw [if_neg z] at hd; cases hd))
      (by rw [(fa 1 b xb).1, (fa 1 b xb).2]; exact rd_number hb hn) (fun d hd => by rw [(fa 1 b xb).2]; exact mxn_none hb hn (by by_cases z : NT b = true; exact z; rw [if_neg z] at hd; cases hd))
    have gm : mx_read_pair [tD cs] = (gCn (pCall m_read_number (pCons (pOp dIx (pVar 1) (pCon (.int 0))) pNil)) (gOf (pCons (pOp dIx (pVar 1) (pCon (.int 0))) pNil) mx_read_number) (gCn (pCall m_read_number (pCons (pOp dIx (pVar 1) (pCon (.int 1))) pNil)) (gOf (pCons (pOp dIx (pVar 1) (pCon (.int 1))) pNil) mx_read_number) gNon)) [some (tD cs), some (.list ((sp [44] cs).map tD))] :=
      (show gx_read_pair [.sh (tD cs), .no] = _ from (gsq_nx (G := gNo) rfl e1).trans (gsq_nx sg st))
    have fm : b_read_pair [.sh (tD cs), .no] = pRet (pTup (pCons (pCall m_read_number (pCons (pOp dIx (pVar 1) (pCon (.int 0))) pNil)) (pCons (pCall m_read_number (pCons (pOp dIx (pVar 1) (pCon (.int 1))) pNil)) pNil))) [.sh (tD cs), .sh (.list ((sp [44] cs).map tD))] :=
      sq_nx e1 (sq_nx st rfl)
    have fe : (pRet (pTup (pCons (pCall m_read_number (pCons (pOp dIx (pVar 1) (pCon (.int 0))) pNil)) (pCons (pCall m_read_number (pCons (pOp dIx (pVar 1) (pCon (.int 1))) pNil)) pNil))) [.sh (tD cs), .sh (.list ((sp [44] cs).map tD))]) =
      ((pTup (pCons (pCall m_read_number (pCons (pOp dIx (pVar 1) (pCon (.int 0))) pNil)) (pCons (pCall m_read_number (pCons (pOp dIx (pVar 1) (pCon (.int 1))) pNil)) pNil))) [some (tD cs), some (.list ((sp [44] cs).map tD))]).bind fun d => some (.rt d) := rfl
    rw [fe] at fm
    rw [ep]
    by_cases na : NT a = true
    · rw [if_pos na] at key
      by_cases nb : NT b = true
      · rw [if_pos nb] at key
        rw [if_pos ⟨na, nb⟩]
        have key : _ = some (PyData.tuple [.int (nv a), .int (nv b)]) := key
        rw [key] at fm
        refine ⟨runF_of (o := .rt _) rfl fm rfl, fun d _ => ?_⟩
        have ra : m_read_number [tD a] = some (.int (nv a)) := read_yes ha.1 (by have := ha.2; omega) na
        have rb : m_read_number [tD b] = some (.int (nv b)) := read_yes hb.1 (by have := hb.2; omega) nb
        rw [gm]
        unfold gCn
        simp only [(fa 0 a xa).2, mxn_none ha hn na, (fa 0 a xa).1, ra, bnd_some, (fa 1 b xb).2, mxn_none hb hn nb, (fa 1 b xb).1, rb]
        rfl
      · rw [if_neg nb] at key
        rw [if_neg fun z => nb z.2]
        rw [key.1] at fm
        exact ⟨⟨runF_none rfl fm, gm.trans key.2⟩, fun d hd => by cases hd⟩
    · rw [if_neg na] at key
      rw [if_neg fun z => na z.1]
      rw [key.1] at fm
      exact ⟨⟨runF_none rfl fm, gm.trans key.2⟩, fun d hd => by cases hd⟩
  · have ec' := ec false (decide_eq_false (by omega))
    rw [pr_no h2]
    refine ⟨⟨runF_none rfl ?_, ?_⟩, fun d hd => by cases hd⟩
    · show b_read_pair [.sh (tD cs), .no] = none
      refine sq_nx e1 (sq_no ?_)
      show Option.bind ((pTest (pOp dNe (pCall gLen (pCons (pVar 1) pNil)) (pCon (.int 2)))) [some (tD cs), some (.list ((sp [44] cs).map tD))]) _ = _
      rw [ec']
      rfl
    · show gx_read_pair [.sh (tD cs), .no] = _
      refine (gsq_nx (G := gNo) rfl e1).trans (gsq_some ?_)
      show Option.bind ((pTest (pOp dNe (pCall gLen (pCons (pVar 1) pNil)) (pCon (.int 2)))) [some (tD cs), some (.list ((sp [44] cs).map tD))]) _ = _
      rw [ec']
      rfl
theorem dot_eq {cs : List Nat} {n : Nat} (h : Tx cs n) : dEq (tD cs) (.str ".") = some (.bool (decide (cs = [46]))) := by
  rw [dot_S]
  exact eq_S h.1 (one_128 (by decide))
theorem rd_place {cs : List Nat} {n : Nat} (h : Tx cs n) (hn : n ≤ 100000) : Rx (m_read_place [tD cs]) (mx_read_place [tD cs]) ((pl? cs).map encD) := by
  have e := dot_eq h
  have ht : (pTest (pOp dEq (pVar 0) (pCon (.str ".")))) [some (tD cs)] = some (decide (cs = [46])) := by
    show Option.bind (dEq (tD cs) (.str ".")) _ = _
    rw [e]
    rfl
  have fm : b_read_place [.sh (tD cs)] = (if decide (cs = [46]) = true then some (.tuple []) else m_read_pair [tD cs]).bind fun d => some (.rt d) := by
    show Option.bind (Option.bind ((pTest (pOp dEq (pVar 0) (pCon (.str ".")))) [some (tD cs)]) _) _ = _
    rw [ht]
    rfl
  have gm : mx_read_place [tD cs] = if decide (cs = [46]) = true then none else mx_read_pair [tD cs] := by
    show Option.bind ((pTest (pOp dEq (pVar 0) (pCon (.str ".")))) [some (tD cs)]) _ = _
    rw [ht]
    rfl
  unfold pl?
  by_cases hc : cs = [46]
  · rw [if_pos (decide_eq_true hc)] at fm gm
    rw [if_pos hc]
    exact ⟨runF_of (o := .rt (.tuple [])) rfl fm rfl, fun _ _ => gm⟩
  · have hd : ¬ decide (cs = [46]) = true := by simpa using hc
    rw [if_neg hd] at fm gm
    rw [if_neg hc]
    have hp := rd_pair h hn
    cases ep : pr? cs with
    | none =>
      rw [ep] at hp
      rw [hp.1.1] at fm
      exact ⟨⟨runF_none rfl fm, gm.trans hp.1.2⟩, fun d hd => by cases hd⟩
    | some p =>
      rw [ep] at hp
      rw [hp.1.yes] at fm
      exact ⟨runF_of (o := .rt _) rfl fm rfl, fun d _ => gm.trans (hp.2 _ rfl)⟩
theorem rd_comp {o : List Nat → Option Thing} {f : List D → Option D} {g : List D → Option Str} : ∀ ws : List (List Nat), (∀ w ∈ ws, Rx (f [tD w]) (g [tD w]) ((o w).map encD)) →
    Rx ((compP (bd1 0) pTrue (pCall f (pCons (pVar 0) pNil)) [none] (ws.map tD)).map PyData.list) (gComp (bd1 0) pTrue (pCall f (pCons (pVar 0) pNil)) (gOf (pCons (pVar 0) pNil) g) [none] (ws.map tD)) ((allS (ws.map o)).map aD)
  | [], _ => ⟨rfl, fun _ _ => rfl⟩
  | w :: ws, h => by
    have hw := h w (List.mem_cons_self ..)
    have ih := rd_comp ws fun v hv => h v (List.mem_cons_of_mem _ hv)
    have cm : compP (bd1 0) pTrue (pCall f (pCons (pVar 0) pNil)) [none] ((w :: ws).map tD) = (f [tD w]).bind fun e => (compP (bd1 0) pTrue (pCall f (pCons (pVar 0) pNil)) [none] (ws.map tD)).bind fun r => some (e :: r) := rfl
    have cg : gComp (bd1 0) pTrue (pCall f (pCons (pVar 0) pNil)) (gOf (pCons (pVar 0) pNil) g) [none] ((w :: ws).map tD) = (match g [tD w] with
      | some C => some C
      | none => (f [tD w]).bind fun _ => gComp (bd1 0) pTrue (pCall f (pCons (pVar 0) pNil)) (gOf (pCons (pVar 0) pNil) g) [none] (ws.map tD)) := rfl
    rw [cm, cg, List.map_cons]
    cases ho : o w with
    | none =>
      rw [ho] at hw
      refine ⟨⟨by rw [hw.1.1]; rfl, by rw [hw.1.2]⟩, fun d hd => by cases hd⟩
    | some t =>
      rw [ho] at hw
      rw [hw.1.yes, hw.2 _ rfl]
      cases ha : allS (ws.map o) with
      | none =>
        rw [ha] at ih
        have e1 : compP (bd1 0) pTrue (pCall f (pCons (pVar 0) pNil)) [none] (ws.map tD) = none := by
          have := ih.1.1
          cases z : compP (bd1 0) pTrue (pCall f (pCons (pVar 0) pNil)) [none] (ws.map tD) with
          | none => rfl
          | some r => rw [z] at this; cases this
        have e2 : allS (some t :: ws.map o) = none := by show Option.map _ (allS (ws.map o)) = none; rw [ha]; rfl
        rw [e1, e2]
        exact ⟨⟨rfl, ih.1.2⟩, fun d hd => by cases hd⟩
      | some ts =>
        rw [ha] at ih
        have e1 : compP (bd1 0) pTrue (pCall f (pCons (pVar 0) pNil)) [none] (ws.map tD) = some (ts.map encD) := by
          have := ih.1.yes
          cases z : compP (bd1 0) pTrue (pCall f (pCons (pVar 0) pNil)) [none] (ws.map tD) with
          | none => rw [z] at this; cases this
          | some r => rw [z] at this; have := Option.some.inj this; injection this with this; rw [this]
        have e2 : allS (some t :: ws.map o) = some (t :: ts) := by show Option.map _ (allS (ws.map o)) = _; rw [ha]; rfl
        rw [e1, e2]
        exact ⟨rfl, fun d _ => ih.2 _ rfl⟩
theorem rd_area {cs : List Nat} {n : Nat} (h : Tx cs n) (hn : n ≤ 100000) : Rx (m_read_area [tD cs]) (mx_read_area [tD cs]) ((ar? cs).map aD) := by
  obtain ⟨hs, hw, hl⟩ := sp_ok (y := [32]) (by decide) h hn
  have hi : (pItL (pOfL (pSplit (pVar 0) (pCon (.str " "))))) [some (tD cs)] = some ((sp [32] cs).map tD) := by
    rw [space_S]
    show Option.bind (Option.map PyData.list (dSplit (tD cs) (tD [32]))) _ = _
    rw [hs]
    rfl
  have hf : ((sp [32] cs).map tD).length < 16777216 := by rw [List.length_map]; omega
  have key := rd_comp (o := pl?) (f := m_read_place) (g := mx_read_place) (sp [32] cs) fun w hw' => rd_place (hw w hw') hn
  have cm := comp_eq (bd := bd1 0) (pt := pTrue) (fe := pCall m_read_place (pCons (pVar 0) pNil)) (n := 1) (is := []) hi hf
  have cg : gCompX (pItL (pOfL (pSplit (pVar 0) (pCon (.str " "))))) (bd1 0) pTrue (pCall m_read_place (pCons (pVar 0) pNil)) (gOf (pCons (pVar 0) pNil) mx_read_place) 1 [] [some (tD cs)] = gComp (bd1 0) pTrue (pCall m_read_place (pCons (pVar 0) pNil)) (gOf (pCons (pVar 0) pNil) mx_read_place) [none] ((sp [32] cs).map tD) := by
    unfold gCompX
    rw [hi, bnd_some, if_pos (fits_lit hf)]
    rfl
  have fm : b_read_area [.sh (tD cs)] = ((compP (bd1 0) pTrue (pCall m_read_place (pCons (pVar 0) pNil)) [none] ((sp [32] cs).map tD)).map PyData.list).bind fun d => some (.rt d) := by
    show Option.bind (Option.map PyData.list (pComp (pItL (pOfL (pSplit (pVar 0) (pCon (.str " "))))) (bd1 0) pTrue (pCall m_read_place (pCons (pVar 0) pNil)) 1 [] [some (tD cs)])) _ = _
    rw [cm]
    rfl
  have gm : mx_read_area [tD cs] = _ := cg
  have ea : ar? cs = allS ((sp [32] cs).map pl?) := rfl
  rw [ea]
  cases e : allS ((sp [32] cs).map pl?) with
  | none =>
    rw [e] at key
    rw [key.1.1] at fm
    exact ⟨⟨runF_none rfl fm, gm.trans key.1.2⟩, fun d hd => by cases hd⟩
  | some ts =>
    rw [e] at key
    rw [key.1.yes] at fm
    exact ⟨runF_of (o := .rt _) rfl fm rfl, fun d _ => gm.trans (key.2 _ rfl)⟩
theorem rd_three {fa fb fc : PF} {ga gb gc : PXe} {ρ : PEnv} {a b c : Option D} (ha : Rx (fa ρ) (ga ρ) a) (hb : Rx (fb ρ) (gb ρ) b) (hc : Rx (fc ρ) (gc ρ) c) :
    Rd (pOfL (pLst (pCons fa (pCons fb (pCons fc pNil)))) ρ) (gCn fa ga (gCn fb gb (gCn fc gc gNon)) ρ) (a.bind fun x => b.bind fun y => c.map fun z => .list [x, y, z]) := by
  cases a with
  | none =>
    refine ⟨by simp only [pOfL, pLst, pCons, ha.1.1, bnd_none, Option.map_none], ?_⟩
    unfold gCn
    rw [ha.1.2]
  | some x =>
    have ga' := ha.2 _ rfl
    have ha := ha.1.yes
    cases b with
    | none =>
      refine ⟨by simp only [pOfL, pLst, pCons, ha, hb.1.1, bnd_some, bnd_none, Option.map_none], ?_⟩
      unfold gCn
      simp only [ga', ha, bnd_some, hb.1.2]
    | some y =>
      have gb' := hb.2 _ rfl
      have hb := hb.1.yes
      cases c with
      | none =>
        refine ⟨by simp only [pOfL, pLst, pCons, ha, hb, hc.1.1, bnd_some, bnd_none, Option.map_none], ?_⟩
        unfold gCn
        simp only [ga', ha, gb', hb, bnd_some, hc.1.2]
      | some z =>
        show pOfL (pLst (pCons fa (pCons fb (pCons fc pNil)))) ρ = some (.list [x, y, z])
        simp only [pOfL, pLst, pCons, pNil, ha, hb, hc.1.yes, bnd_some]
        rfl
theorem dk_no {cs : List Nat} (h : (sp [32, 47, 32] cs).length ≠ 3) : dk? cs = none := by
  unfold dk?
  split
  · rename_i a b c e
    rw [e] at h
    exact absurd rfl h
  · rfl
theorem rd_disk {cs : List Nat} {n : Nat} (h : Tx cs n) (hn : n ≤ 100000) : Rd (m_read_disk [tD cs]) (mx_read_disk [tD cs]) ((dk? cs).map kD) := by
  obtain ⟨hs, hw, hl⟩ := sp_ok (y := [32, 47, 32]) (by decide) h hn
  have i1 : (pNotT (pTest (pIsi "str" (pVar 0)))) [some (tD cs), none] = some false := rfl
  have e0 : pIfS (pNotT (pTest (pIsi "str" (pVar 0)))) pNever pNx [.sh (tD cs), .no] = some (.nx [.sh (tD cs), .no]) := rfl
  have g0 : gIf (pNotT (pTest (pIsi "str" (pVar 0)))) (gRaise "NoText") gNo [.sh (tD cs), .no] = none := rfl
  have e1 : pSet 1 (vS (pOfL (pSplit (pVar 0) (pCon (.str " / "))))) [.sh (tD cs), .no] = some (.nx [.sh (tD cs), .sh (.list ((sp [32, 47, 32] cs).map tD))]) := by
    rw [slash_S]
    show Option.bind (Option.bind (Option.map PyData.list (dSplit (tD cs) (tD [32, 47, 32]))) _) _ = _
    rw [hs]
    rfl
  have hlen : ((sp [32, 47, 32] cs).map tD).length < 16777216 := by rw [List.length_map]; omega
  have hlm : ((sp [32, 47, 32] cs).map tD).length = (sp [32, 47, 32] cs).length := List.length_map ..
  have ec : ∀ b, decide (((sp [32, 47, 32] cs).length : Int) = 3) = b → (pTest (pOp dNe (pCall gLen (pCons (pVar 1) pNil)) (pCon (.int 3)))) [some (tD cs), some (.list ((sp [32, 47, 32] cs).map tD))] = some (!b) := by
    intro b hb
    subst hb
    generalize tD cs = T at *
    generalize (sp [32, 47, 32] cs).map tD = W at *
    rw [← hlm]
    clear hs hw hl e1 hlm h hn i1 e0 g0
    walk_at "pu"
  generalize hW : (sp [32, 47, 32] cs).map tD = W at *
  by_cases h2 : (sp [32, 47, 32] cs).length = 3
  · have ec' := ec true (decide_eq_true (by rw [h2]; rfl))
    obtain ⟨a, b, c, hab⟩ := three_of h2
    have ha := hw a (by rw [hab]; simp)
    have hb := hw b (by rw [hab]; simp)
    have hc := hw c (by rw [hab]; simp)
    have st : pIfS (pTest (pOp dNe (pCall gLen (pCons (pVar 1) pNil)) (pCon (.int 3)))) pNever pNx [.sh (tD cs), .sh (.list W)] = some (.nx [.sh (tD cs), .sh (.list W)]) := by
      show Option.bind ((pTest (pOp dNe (pCall gLen (pCons (pVar 1) pNil)) (pCon (.int 3)))) [some (tD cs), some (.list W)]) _ = _
      rw [ec']
      rfl
    have sg : gIf (pTest (pOp dNe (pCall gLen (pCons (pVar 1) pNil)) (pCon (.int 3)))) (gRaise "NoText") gNo [.sh (tD cs), .sh (.list W)] = none := by
      show Option.bind ((pTest (pOp dNe (pCall gLen (pCons (pVar 1) pNil)) (pCon (.int 3)))) [some (tD cs), some (.list W)]) _ = _
      rw [ec']
      rfl
    have hW3 : W = [tD a, tD b, tD c] := by rw [← hW, hab]; rfl
    have ep : dk? cs = (ar? a).bind fun A => (ar? b).bind fun B => (pr? c).map fun p => [A, B, [some p]] := by
      unfold dk?
      rw [hab]
      show (match ar? a, ar? b, pr? c with
        | some A, some B, some p => some [A, B, [some p]]
        | _, _, _ => none) = _
      cases ar? a <;> cases ar? b <;> cases pr? c <;> rfl
    have call : ∀ (f : List D → Option D) (g : List D → Option Str) (i : Int) (v : List Nat), (pOp dIx (pVar 1) (pCon (.int i))) [some (tD cs), some (.list W)] = some (tD v) → (pCall f (pCons (pOp dIx (pVar 1) (pCon (.int i))) pNil)) [some (tD cs), some (.list W)] = f [tD v] ∧
        (gOf (pCons (pOp dIx (pVar 1) (pCon (.int i))) pNil) g) [some (tD cs), some (.list W)] = g [tD v] := by
      intro f g i v hv
      constructor
      · show Option.bind (Option.bind ((pOp dIx (pVar 1) (pCon (.int i))) [some (tD cs), some (.list W)]) _) _ = _
        rw [hv]
        rfl
      · show Option.bind (Option.bind ((pOp dIx (pVar 1) (pCon (.int i))) [some (tD cs), some (.list W)]) _) _ = _
        rw [hv]
        rfl
    have xa : (pOp dIx (pVar 1) (pCon (.int 0))) [some (tD cs), some (.list W)] = some (tD a) := by rw [hW3]; rfl
    have xb : (pOp dIx (pVar 1) (pCon (.int 1))) [some (tD cs), some (.list W)] = some (tD b) := by rw [hW3]; rfl
    have xc : (pOp dIx (pVar 1) (pCon (.int 2))) [some (tD cs), some (.list W)] = some (tD c) := by rw [hW3]; rfl
    have ra : Rx ((pCall m_read_area (pCons (pOp dIx (pVar 1) (pCon (.int 0))) pNil)) [some (tD cs), some (.list W)]) ((gOf (pCons (pOp dIx (pVar 1) (pCon (.int 0))) pNil) mx_read_area) [some (tD cs), some (.list W)]) ((ar? a).map aD) := by
      rw [(call _ mx_read_area 0 a xa).1, (call m_read_area _ 0 a xa).2]
      exact rd_area ha hn
    have rb : Rx ((pCall m_read_area (pCons (pOp dIx (pVar 1) (pCon (.int 1))) pNil)) [some (tD cs), some (.list W)]) ((gOf (pCons (pOp dIx (pVar 1) (pCon (.int 1))) pNil) mx_read_area) [some (tD cs), some (.list W)]) ((ar? b).map aD) := by
      rw [(call _ mx_read_area 1 b xb).1, (call m_read_area _ 1 b xb).2]
      exact rd_area hb hn
    have rc : Rx (pOfL (pLst (pCons (pCall m_read_pair (pCons (pOp dIx (pVar 1) (pCon (.int 2))) pNil)) pNil)) [some (tD cs), some (.list W)]) ((gCn (pCall m_read_pair (pCons (pOp dIx (pVar 1) (pCon (.int 2))) pNil)) (gOf (pCons (pOp dIx (pVar 1) (pCon (.int 2))) pNil) mx_read_pair) gNon) [some (tD cs), some (.list W)]) ((pr? c).map fun p => aD [some p]) := by
      have hp := rd_pair hc hn
      unfold gCn
      simp only [pOfL, pLst, pCons, (call m_read_pair mx_read_pair 2 c xc).2]
      have z := (call m_read_pair mx_read_pair 2 c xc).1
      rw [z]
      cases e : pr? c with
      | none =>
        rw [e] at hp
        rw [hp.1.1, hp.1.2]
        exact ⟨⟨rfl, rfl⟩, fun d hd => by cases hd⟩
      | some p =>
        rw [e] at hp
        rw [hp.1.yes, hp.2 _ rfl]
        exact ⟨rfl, fun d _ => rfl⟩
    have key := rd_three ra rb rc
    have gm : mx_read_disk [tD cs] = _ := (show gx_read_disk [.sh (tD cs), .no] = _ from (gsq_nx g0 e0).trans ((gsq_nx (G := gNo) rfl e1).trans (gsq_nx sg st)))
    have fm : b_read_disk [.sh (tD cs), .no] = (pOfL (pLst (pCons (pCall m_read_area (pCons (pOp dIx (pVar 1) (pCon (.int 0))) pNil)) (pCons (pCall m_read_area (pCons (pOp dIx (pVar 1) (pCon (.int 1))) pNil)) (pCons (pOfL (pLst (pCons (pCall m_read_pair (pCons (pOp dIx (pVar 1) (pCon (.int 2))) pNil)) pNil))) pNil)))) [some (tD cs), some (.list W)]).bind fun d => some (.rt d) :=
      sq_nx e0 (sq_nx e1 (sq_nx st rfl))
    rw [ep]
    cases ea : ar? a with
    | none =>
      rw [ea] at key
      rw [key.1] at fm
      exact ⟨runF_none rfl fm, gm.trans key.2⟩
    | some A =>
      rw [ea] at key
      cases eb : ar? b with
      | none =>
        rw [eb] at key
        rw [key.1] at fm
        exact ⟨runF_none rfl fm, gm.trans key.2⟩
      | some B =>
        rw [eb] at key
        cases ec : pr? c with
        | none =>
          rw [ec] at key
          rw [key.1] at fm
          exact ⟨runF_none rfl fm, gm.trans key.2⟩
        | some p =>
          rw [ec] at key
          rw [key.yes] at fm
          exact runF_of (o := .rt _) rfl fm rfl
  · have ec' := ec false (decide_eq_false (by omega))
    rw [dk_no h2]
    refine ⟨runF_none rfl ?_, ?_⟩
    · show b_read_disk [.sh (tD cs), .no] = none
      refine sq_nx e0 (sq_nx e1 (sq_no ?_))
      show Option.bind ((pTest (pOp dNe (pCall gLen (pCons (pVar 1) pNil)) (pCon (.int 3)))) [some (tD cs), some (.list W)]) _ = _
      rw [ec']
      rfl
    · show gx_read_disk [.sh (tD cs), .no] = _
      refine (gsq_nx g0 e0).trans ((gsq_nx (G := gNo) rfl e1).trans (gsq_some ?_))
      show Option.bind ((pTest (pOp dNe (pCall gLen (pCons (pVar 1) pNil)) (pCon (.int 3)))) [some (tD cs), some (.list W)]) _ = _
      rw [ec']
      rfl
def oD {α : Type} (e : α → D) : Option α → D
  | some a => e a
  | none => .none
theorem enc_O {α : Type} [DecidableEq α] {e : α → D} {n : Nat} (h : EncOk e n) (h1 : ∀ a, PyData.eqv .none (e a) = false) (h2 : ∀ a, PyData.eqv (e a) .none = false) : EncOk (oD e) n where
  lay := fun o => by
    cases o with
    | none => rfl
    | some a => exact h.lay a
  dep := fun o => by
    cases o with
    | none => exact Nat.zero_le _
    | some a => exact h.dep a
  eqv := fun o o' => by
    cases o with
    | none =>
      cases o' with
      | none => rfl
      | some b => show PyData.eqv .none (e b) = _; rw [h1 b]; rfl
    | some a =>
      cases o' with
      | none => show PyData.eqv (e a) .none = _; rw [h2 a]; rfl
      | some b => show PyData.eqv (e a) (e b) = _; rw [h.eqv a b]; simp
theorem enc_ON : EncOk (oD PyData.int) 1 := enc_O ⟨fun _ => rfl, fun _ => Nat.zero_le _, fun a b => by show (a == b) = _; rfl⟩ (fun _ => rfl) (fun _ => rfl)
theorem enc_OT : EncOk (oD encD) 2 := by
  have h : EncOk encD 2 := ⟨enc_T.lay, fun a => Nat.le_trans (enc_T.dep a) (by decide), enc_T.eqv⟩
  exact enc_O h (fun t => by cases t <;> rfl) (fun t => by cases t <;> rfl)
theorem in_none {α : Type} [DecidableEq α] {e : α → D} {n : Nat} (h : EncOk (oD e) n) (hn : n ≤ 64) (xs : List (Option α)) : dInD .none (.list (xs.map (oD e))) = some (.bool (xs.any fun o => o.isNone)) := by
  have hs : shapedAll (xs.map (oD e)) = true := List.all_eq_true.mpr fun d hd => by
    obtain ⟨o, _, rfl⟩ := List.mem_map.mp hd
    exact h.shaped hn o
  have h0 : SeqAt.shaped (.none : D) = true := h.shaped hn none
  show (if shapedAll (xs.map (oD e)) = true ∧ SeqAt.shaped (.none : D) = true then some (PyData.bool ((xs.map (oD e)).any fun d => PyData.eqv d .none)) else none) = _
  rw [if_pos ⟨hs, h0⟩, List.any_map]
  congr 3
  funext o
  show PyData.eqv (oD e o) (oD e none) = _
  rw [h.eqv]
  cases o <;> rfl
theorem allS_some {β : Type} : ∀ {xs : List (Option β)} {ts : List β}, allS xs = some ts → xs = ts.map some
  | [], ts, h => by cases h; rfl
  | none :: r, ts, h => by cases h
  | some a :: r, ts, h => by
    have h : Option.map (a :: ·) (allS r) = some ts := h
    cases e : allS r with
    | none => rw [e] at h; cases h
    | some us =>
      rw [e] at h
      cases h
      rw [allS_some e]
      rfl
theorem allS_none {β : Type} : ∀ {xs : List (Option β)}, allS xs = none → (xs.any fun o => o.isNone) = true
  | [], h => by cases h
  | none :: r, h => rfl
  | some a :: r, h => by
    have h : Option.map (a :: ·) (allS r) = none := h
    cases e : allS r with
    | none => show (false || _) = true; rw [Bool.false_or]; exact allS_none e
    | some us => rw [e] at h; cases h
theorem any_some {β : Type} (ts : List β) : ((ts.map some).any fun o => o.isNone) = false := by
  rw [List.any_map]
  exact List.any_eq_false.mpr fun _ _ => by simp
def nO (w : List Nat) : Option Int := if NT w = true then some (nv w) else none
theorem law_num {cs : List Nat} {n : Nat} (h : Tx cs n) (hn : n ≤ 100000) : m__law_number [tD cs] = some (oD PyData.int (nO cs)) := by
  have := law_number h.1 (by have := h.2; omega)
  unfold nO
  refine Eq.trans this ?_
  by_cases hc : NT cs = true
  · rw [if_pos hc, if_pos hc]; rfl
  · rw [if_neg hc, if_neg hc]; rfl
theorem law_pair {cs : List Nat} {n : Nat} (h : Tx cs n) (hn : n ≤ 100000) : m__law_pair [tD cs] = some (oD encD ((pr? cs).map some)) := by
  obtain ⟨hs, hw, hl⟩ := sp_ok (y := [44]) (by decide) h hn
  have hi : (pItL (pOfL (pSplit (pVar 0) (pCon (.str ","))))) [some (tD cs), none] = some ((sp [44] cs).map tD) := by
    rw [comma_S]
    show Option.bind (Option.map PyData.list (dSplit (tD cs) (tD [44]))) _ = _
    rw [hs]
    rfl
  have hf : ((sp [44] cs).map tD).length < 16777216 := by rw [List.length_map]; omega
  have cm := comp_eq (bd := bd1 0) (pt := pTrue) (fe := pCall m__law_number (pCons (pVar 0) pNil)) (n := 1) (is := []) hi hf
  have cm2 := compP_mapT (bd := bd1 0) (fe := pCall m__law_number (pCons (pVar 0) pNil)) (ρ0 := [none]) tD (fun w => oD PyData.int (nO w)) (sp [44] cs) fun w hw' => ⟨[some (tD w)], rfl, by
    show m__law_number [tD w] = _
    exact law_num (hw w hw') hn⟩
  have ev : compEnv 1 [] [some (tD cs), none] = [none] := rfl
  rw [ev, cm2] at cm
  have e1 : pSet 1 (vSL (pComp (pItL (pOfL (pSplit (pVar 0) (pCon (.str ","))))) (bd1 0) pTrue (pCall m__law_number (pCons (pVar 0) pNil)) 1 [])) [.sh (tD cs), .no] = some (.nx [.sh (tD cs), .sh (.list ((sp [44] cs).map fun w => oD PyData.int (nO w)))]) := by
    have mk : masked [.sh (tD cs), .no] = [some (tD cs), none] := rfl
    simp only [pSet, vSL, vS, pOfL, mk, Option.map_some, bnd_some]
    rw [cm]
    rfl
  have hin := in_none enc_ON (by decide) ((sp [44] cs).map nO)
  rw [List.map_map] at hin
  have hin : dInD .none (.list ((sp [44] cs).map fun w => oD PyData.int (nO w))) = _ := hin
  have hlm : ((sp [44] cs).map fun w => oD PyData.int (nO w)).length = (sp [44] cs).length := List.length_map ..
  have hlen : ((sp [44] cs).map fun w => oD PyData.int (nO w)).length < 16777216 := by rw [hlm]; omega
  have ec : ∀ b, decide (((sp [44] cs).length : Int) = 2) = b → (pTest (pOp dNe (pCall gLen (pCons (pVar 1) pNil)) (pCon (.int 2)))) [some (tD cs), some (.list ((sp [44] cs).map fun w => oD PyData.int (nO w)))] = some (!b) := by
    intro b hb
    subst hb
    generalize tD cs = T at *
    generalize ((sp [44] cs).map fun w => oD PyData.int (nO w)) = W at *
    rw [← hlm]
    clear hs hw hl e1 hlm h hn hi hf cm cm2 ev hin
    walk_at "pu"
  generalize hW : ((sp [44] cs).map fun w => oD PyData.int (nO w)) = W at *
  have hx : (pTest (pOp dInD (pCon .none) (pVar 1))) [some (tD cs), some (.list W)] = some (((sp [44] cs).map nO).any fun o => o.isNone) := by
    show Option.bind (dInD .none (.list W)) _ = _
    rw [hin]
    rfl
  by_cases h2 : (sp [44] cs).length = 2
  · have ec' := ec true (decide_eq_true (by rw [h2]; rfl))
    obtain ⟨a, b, hab⟩ := two_of h2
    have ep : pr? cs = if NT a = true ∧ NT b = true then some (nv a, nv b) else none := by
      unfold pr?
      rw [hab]
    rw [hab] at hx
    have hW3 : W = [oD PyData.int (nO a), oD PyData.int (nO b)] := by rw [← hW, hab]; rfl
    have tst : (pOrT (pTest (pOp dNe (pCall gLen (pCons (pVar 1) pNil)) (pCon (.int 2)))) (pTest (pOp dInD (pCon .none) (pVar 1)))) [some (tD cs), some (.list W)] = some (([a, b].map nO).any fun o => o.isNone) := by
      show Option.bind ((pTest (pOp dNe (pCall gLen (pCons (pVar 1) pNil)) (pCon (.int 2)))) [some (tD cs), some (.list W)]) _ = _
      rw [ec', bnd_some]
      exact hx
    rw [ep]
    by_cases hc : NT a = true ∧ NT b = true
    · rw [if_pos hc]
      have ha : nO a = some (nv a) := if_pos hc.1
      have hb : nO b = some (nv b) := if_pos hc.2
      have tf : (([a, b].map nO).any fun o => o.isNone) = false := by simp [ha, hb]
      rw [tf] at tst
      refine runF_of (o := .rt (.tuple [.int (nv a), .int (nv b)])) rfl ?_ rfl
      refine sq_nx e1 (sq_nx (ρ' := [.sh (tD cs), .sh (.list W)]) ?_ ?_)
      · show Option.bind ((pOrT (pTest (pOp dNe (pCall gLen (pCons (pVar 1) pNil)) (pCon (.int 2)))) (pTest (pOp dInD (pCon .none) (pVar 1)))) [some (tD cs), some (.list W)]) _ = _
        rw [tst]
        rfl
      · rw [hW3, ha, hb]
        rfl
    · rw [if_neg hc]
      have tt : (([a, b].map nO).any fun o => o.isNone) = true := by
        by_cases z : NT a = true
        · have zb : ¬ NT b = true := fun q => hc ⟨z, q⟩
          have hb : nO b = none := if_neg zb
          simp [hb]
        · have ha : nO a = none := if_neg z
          simp [ha]
      rw [tt] at tst
      refine runF_of (o := .rt .none) rfl ?_ rfl
      refine sq_nx e1 (sq_rt ?_)
      show Option.bind ((pOrT (pTest (pOp dNe (pCall gLen (pCons (pVar 1) pNil)) (pCon (.int 2)))) (pTest (pOp dInD (pCon .none) (pVar 1)))) [some (tD cs), some (.list W)]) _ = _
      rw [tst]
      rfl
  · have ec' := ec false (decide_eq_false (by omega))
    rw [pr_no h2]
    refine runF_of (o := .rt .none) rfl ?_ rfl
    refine sq_nx e1 (sq_rt ?_)
    show Option.bind (Option.bind ((pTest (pOp dNe (pCall gLen (pCons (pVar 1) pNil)) (pCon (.int 2)))) [some (tD cs), some (.list W)]) _) _ = _
    rw [ec']
    rfl
def arO (w : List Nat) : List (Option Thing) := (sp [32] w).map pl?
def arD (w : List Nat) : D := .list ((arO w).map (oD encD))
theorem due_in {n : Nat} (hn : n ≤ 100000) (ws : List (List Nat)) (hw : ∀ w ∈ ws, Tx w n) (hl : ws.length < 1000000) (s0 s1 s3 : D) (P : List D) (s5 s6 : Sl) :
    ∃ s5' s6', forP (bs1 5) l__law_due_2 (ws.map tD) [.sh s0, .sh s1, .ow P, .sh s3, .ow [], s5, s6] = some (.nx [.sh s0, .sh s1, .ow P, .sh s3, .ow (ws.map fun w => oD encD (pl? w)), s5', s6']) := by
  have loop := for_pre (bs := bs1 5) (F := l__law_due_2) tD (fun pre ρ => ∃ s5 s6, ρ = [.sh s0, .sh s1, .ow P, .sh s3, .ow (pre.map fun w => oD encD (pl? w)), s5, s6]) ws ?_ [.sh s0, .sh s1, .ow P, .sh s3, .ow [], s5, s6] ⟨_, _, rfl⟩
  · obtain ⟨ρ', hf, s5', s6', rfl⟩ := loop
    exact ⟨s5', s6', hf⟩
  · rintro pre w post ρ e ⟨s5, s6, rfl⟩
    have ht := hw w (by rw [e]; simp)
    have hpl : (pre.map fun w => oD encD (pl? w)).length < 16777216 := by
      rw [e] at hl
      simp at hl
      rw [List.length_map]
      omega
    have hp := law_pair ht hn
    have hd := dot_eq ht
    refine ⟨[.sh s0, .sh s1, .ow P, .sh s3, .ow (pre.map fun w => oD encD (pl? w)), .sh (tD w), s6], [.sh s0, .sh s1, .ow P, .sh s3, .ow ((pre ++ [w]).map fun w => oD encD (pl? w)), .sh (tD w), .sh (oD encD (pl? w))], rfl, ?_, _, _, rfl⟩
    rw [List.map_append]
    show _ = some (Out.nx [_, _, _, _, .ow (_ ++ [oD encD (pl? w)]), _, _])
    unfold l__law_due_2
    by_cases hc : w = [46]
    · have ep : oD encD (pl? w) = .tuple [] := by
        unfold pl?
        rw [if_pos hc]
        rfl
      rw [ep]
      rw [decide_eq_true hc] at hd
      generalize tD w = T at *
      generalize oD encD ((pr? w).map some) = U at *
      generalize (pre.map fun w => oD encD (pl? w)) = V at *
      clear hc ep ht e hw
      walk_at "pu"
    · have ep : oD encD (pl? w) = oD encD ((pr? w).map some) := by
        unfold pl?
        rw [if_neg hc]
      rw [ep]
      rw [decide_eq_false hc] at hd
      generalize tD w = T at *
      generalize oD encD ((pr? w).map some) = U at *
      generalize (pre.map fun w => oD encD (pl? w)) = V at *
      clear hc ep ht e hw
      walk_at "pu"
theorem due_part {n : Nat} (hn : n ≤ 100000) {w : List Nat} (h : Tx w n) (s0 s1 : D) (P : List D) (hP : P.length < 1000000) (s4 s5 s6 : Sl) :
    ∃ s5' s6', l__law_due_1 [.sh s0, .sh s1, .ow P, .sh (tD w), s4, s5, s6] = some (.nx [.sh s0, .sh s1, .ow (P ++ [arD w]), .sh (tD w), .sh (arD w), s5', s6']) := by
  obtain ⟨hs, hw, hl⟩ := sp_ok (y := [32]) (by decide) h hn
  obtain ⟨s5', s6', hf⟩ := due_in hn (sp [32] w) hw (by omega) s0 s1 (tD w) P s5 s6
  refine ⟨s5', s6', ?_⟩
  have ea : arD w = .list ((sp [32] w).map fun w => oD encD (pl? w)) := by unfold arD arO; rw [List.map_map]; rfl
  unfold l__law_due_1
  refine sq_nx (ρ' := [.sh s0, .sh s1, .ow P, .sh (tD w), .ow [], s5, s6]) rfl ?_
  refine sq_nx (ρ' := [.sh s0, .sh s1, .ow P, .sh (tD w), .ow ((sp [32] w).map fun w => oD encD (pl? w)), s5', s6']) ?_ ?_
  · refine (for_eq ?_).trans hf
    rw [space_S]
    show Option.bind (Option.map PyData.list (dSplit (tD w) (tD [32]))) _ = _
    rw [hs]
    rfl
  · rw [ea]
    have hp : P.length < 16777216 := by omega
    show (if fits P.length = true then some (Out.nx [.sh s0, .sh s1, .ow (P ++ [.list ((sp [32] w).map fun w => oD encD (pl? w))]), .sh (tD w), .sh (.list ((sp [32] w).map fun w => oD encD (pl? w))), s5', s6']) else none) = _
    rw [if_pos (fits_lit hp)]
theorem law_due {cs : List Nat} {n : Nat} (h : Tx cs n) (hn : n ≤ 100000) : m__law_due [tD cs] = some (oD kD (dk? cs)) := by
  obtain ⟨hs, hw, hl⟩ := sp_ok (y := [32, 47, 32]) (by decide) h hn
  have e1 : pSet 1 (vS (pOfL (pSplit (pVar 0) (pCon (.str " / "))))) [.sh (tD cs), .no, .no, .no, .no, .no, .no] = some (.nx [.sh (tD cs), .sh (.list ((sp [32, 47, 32] cs).map tD)), .no, .no, .no, .no, .no]) := by
    rw [slash_S]
    show Option.bind (Option.bind (Option.map PyData.list (dSplit (tD cs) (tD [32, 47, 32]))) _) _ = _
    rw [hs]
    rfl
  have hlen : ((sp [32, 47, 32] cs).map tD).length < 16777216 := by rw [List.length_map]; omega
  have hlm : ((sp [32, 47, 32] cs).map tD).length = (sp [32, 47, 32] cs).length := List.length_map ..
  have ec : ∀ b, decide (((sp [32, 47, 32] cs).length : Int) = 3) = b → (pTest (pOp dNe (pCall gLen (pCons (pVar 1) pNil)) (pCon (.int 3)))) [some (tD cs), some (.list ((sp [32, 47, 32] cs).map tD)), none, none, none, none, none] = some (!b) := by
    intro b hb
    subst hb
    generalize tD cs = T at *
    generalize (sp [32, 47, 32] cs).map tD = W at *
    rw [← hlm]
    clear hs hw hl e1 hlm h hn
    walk_at "pu"
  by_cases h2 : (sp [32, 47, 32] cs).length = 3
  · have ec' := ec true (decide_eq_true (by rw [h2]; rfl))
    obtain ⟨a, b, c, hab⟩ := three_of h2
    have ha := hw a (by rw [hab]; simp)
    have hb := hw b (by rw [hab]; simp)
    have hc := hw c (by rw [hab]; simp)
    rw [hab] at e1 ec'
    have ep : dk? cs = (ar? a).bind fun A => (ar? b).bind fun B => (pr? c).map fun p => [A, B, [some p]] := by
      unfold dk?
      rw [hab]
      show (match ar? a, ar? b, pr? c with
        | some A, some B, some p => some [A, B, [some p]]
        | _, _, _ => none) = _
      cases ar? a <;> cases ar? b <;> cases pr? c <;> rfl
    rw [ep]
    have st : pIfS (pTest (pOp dNe (pCall gLen (pCons (pVar 1) pNil)) (pCon (.int 3)))) (pRet (pCon .none)) pNx [.sh (tD cs), .sh (.list ([a, b, c].map tD)), .no, .no, .no, .no, .no] = some (.nx [.sh (tD cs), .sh (.list ([a, b, c].map tD)), .no, .no, .no, .no, .no]) := by
      show Option.bind ((pTest (pOp dNe (pCall gLen (pCons (pVar 1) pNil)) (pCon (.int 3)))) [some (tD cs), some (.list ([a, b, c].map tD)), none, none, none, none, none]) _ = _
      rw [ec']
      rfl
    obtain ⟨s5, s6, l1⟩ := due_part hn ha (tD cs) (.list ([a, b, c].map tD)) [] (by decide) .no .no .no
    obtain ⟨s5', s6', l2⟩ := due_part hn hb (tD cs) (.list ([a, b, c].map tD)) [arD a] (by simp) (.sh (arD a)) s5 s6
    have loop : pFor (pItL (pOfL (pSl (pVar 1) pNoPart (pPart (pCon (.int 2)))))) (bs1 3) l__law_due_1 [.sh (tD cs), .sh (.list ([a, b, c].map tD)), .ow [], .no, .no, .no, .no] = some (.nx [.sh (tD cs), .sh (.list ([a, b, c].map tD)), .ow [arD a, arD b], .sh (tD b), .sh (arD b), s5', s6']) := by
      refine (for_eq (items := [tD a, tD b]) rfl).trans ?_
      rw [forP_nx rfl l1]
      exact (forP_nx rfl l2).trans rfl
    have hp := law_pair hc hn
    have app : pApp 2 (vS (pOfL (pLst (pCons (pCall m__law_pair (pCons (pOp dIx (pVar 1) (pCon (.int 2))) pNil)) pNil)))) [.sh (tD cs), .sh (.list ([a, b, c].map tD)), .ow [arD a, arD b], .sh (tD b), .sh (arD b), s5', s6'] = some (.nx [.sh (tD cs), .sh (.list ([a, b, c].map tD)), .ow [arD a, arD b, .list ([(pr? c).map some].map (oD encD))], .sh (tD b), .sh (arD b), s5', s6']) := by
      show Option.bind (Option.bind (Option.map PyData.list (Option.bind (Option.bind (m__law_pair [tD c]) _) _)) _) _ = _
      rw [hp]
      rfl
    have i0 := in_none enc_OT (by decide) (arO a)
    have i1 := in_none enc_OT (by decide) (arO b)
    have i2 := in_none enc_OT (by decide) [(pr? c).map some]
    have i0 : dInD .none (arD a) = _ := i0
    have i1 : dInD .none (arD b) = _ := i1
    generalize hd3 : PyData.list ([(pr? c).map some].map (oD encD)) = d3 at *
    have tst : (pOrT (pTest (pOp dInD (pCon .none) (pOp dIx (pVar 2) (pCon (.int 0))))) (pOrT (pTest (pOp dInD (pCon .none) (pOp dIx (pVar 2) (pCon (.int 1))))) (pTest (pOp dInD (pCon .none) (pOp dIx (pVar 2) (pCon (.int 2)))))))
        (full [.sh (tD cs), .sh (.list ([a, b, c].map tD)), .ow [arD a, arD b, d3], .sh (tD b), .sh (arD b), s5', s6']) = some (((arO a).any fun o => o.isNone) || (((arO b).any fun o => o.isNone) || ([(pr? c).map some].any fun o => o.isNone))) := by
      have p0 : (pTest (pOp dInD (pCon .none) (pOp dIx (pVar 2) (pCon (.int 0))))) (full [.sh (tD cs), .sh (.list ([a, b, c].map tD)), .ow [arD a, arD b, d3], .sh (tD b), .sh (arD b), s5', s6']) = some ((arO a).any fun o => o.isNone) := by
        show Option.bind (dInD .none (arD a)) _ = _
        rw [i0]
        rfl
      have p1 : (pTest (pOp dInD (pCon .none) (pOp dIx (pVar 2) (pCon (.int 1))))) (full [.sh (tD cs), .sh (.list ([a, b, c].map tD)), .ow [arD a, arD b, d3], .sh (tD b), .sh (arD b), s5', s6']) = some ((arO b).any fun o => o.isNone) := by
        show Option.bind (dInD .none (arD b)) _ = _
        rw [i1]
        rfl
      have p2 : (pTest (pOp dInD (pCon .none) (pOp dIx (pVar 2) (pCon (.int 2))))) (full [.sh (tD cs), .sh (.list ([a, b, c].map tD)), .ow [arD a, arD b, d3], .sh (tD b), .sh (arD b), s5', s6']) = some ([(pr? c).map some].any fun o => o.isNone) := by
        show Option.bind (dInD .none d3) _ = _
        rw [i2]
        rfl
      unfold pOrT
      rw [p0, bnd_some]
      cases (arO a).any fun o => o.isNone with
      | true => rfl
      | false =>
        show Option.bind _ _ = _
        rw [p1, bnd_some]
        cases (arO b).any fun o => o.isNone with
        | true => rfl
        | false => exact p2
    have ends : ∀ o d, (((arO a).any fun o => o.isNone) || (((arO b).any fun o => o.isNone) || ([(pr? c).map some].any fun o => o.isNone))) = o → d = (if o = true then .none else .list [arD a, arD b, d3]) → m__law_due [tD cs] = some d := by
      intro o d ho hd
      rw [ho] at tst
      refine runF_of (o := .rt d) rfl ?_ rfl
      refine sq_nx e1 (sq_nx st (sq_nx (ρ' := [.sh (tD cs), .sh (.list ([a, b, c].map tD)), .ow [], .no, .no, .no, .no]) rfl (sq_nx loop (sq_nx app ?_))))
      cases o with
      | true =>
        refine sq_rt ?_
        show Option.bind _ _ = _
        rw [tst, hd]
        rfl
      | false =>
        refine sq_nx (ρ' := [.sh (tD cs), .sh (.list ([a, b, c].map tD)), .ow [arD a, arD b, d3], .sh (tD b), .sh (arD b), s5', s6']) ?_ ?_
        · show Option.bind _ _ = _
          rw [tst]
          rfl
        · rw [hd]
          rfl
    have fine : ∀ {w : List Nat} {A : List Thing}, ar? w = some A → ((arO w).any fun o => o.isNone) = false ∧ arD w = aD A := fun {w A} e => by
      have := allS_some (show allS (arO w) = some A from e)
      refine ⟨by rw [this]; exact any_some A, ?_⟩
      unfold arD aD
      rw [this, List.map_map]
      rfl
    have bad : ∀ {w : List Nat}, ar? w = none → ((arO w).any fun o => o.isNone) = true := fun {w} e => allS_none (show allS (arO w) = none from e)
    cases ea : ar? a with
    | none => exact ends true _ (by rw [bad ea]; rfl) rfl
    | some A =>
      cases eb : ar? b with
      | none => exact ends true _ (by rw [bad eb, (fine ea).1]; rfl) rfl
      | some B =>
        cases ecc : pr? c with
        | none => exact ends true _ (by rw [(fine ea).1, (fine eb).1, ecc]; rfl) rfl
        | some p =>
          refine ends false _ (by rw [(fine ea).1, (fine eb).1, ecc]; rfl) ?_
          rw [(fine ea).2, (fine eb).2, ← hd3, ecc]
          rfl
  · have ec' := ec false (decide_eq_false (by omega))
    rw [dk_no h2]
    refine runF_of (o := .rt .none) rfl ?_ rfl
    refine sq_nx e1 (sq_rt ?_)
    show Option.bind ((pTest (pOp dNe (pCall gLen (pCons (pVar 1) pNil)) (pCon (.int 3)))) [some (tD cs), some (.list ((sp [32, 47, 32] cs).map tD)), none, none, none, none, none]) _ = _
    rw [ec']
    rfl
theorem jn_mem {y : List Nat} {ws : List (List Nat)} {c : Nat} (h : c ∈ jn y ws) : c ∈ y ∨ ∃ w ∈ ws, c ∈ w := by
  induction ws with
  | nil => cases h
  | cons w r ih =>
    cases r with
    | nil => exact .inr ⟨w, List.mem_cons_self .., h⟩
    | cons w' r =>
      rw [jn_cons] at h
      rcases List.mem_append.mp h with h | h
      · exact .inr ⟨w, List.mem_cons_self .., h⟩
      · rcases List.mem_append.mp h with h | h
        · exact .inl h
        · rcases ih h with h | ⟨v, h1, h2⟩
          · exact .inl h
          · exact .inr ⟨v, List.mem_cons_of_mem _ h1, h2⟩
theorem jn_len {y : List Nat} {ws : List (List Nat)} {B : Nat} (h : ∀ w ∈ ws, w.length ≤ B) : (jn y ws).length ≤ ws.length * (B + y.length) := by
  induction ws with
  | nil => exact Nat.zero_le _
  | cons w r ih =>
    have h1 := h w (List.mem_cons_self ..)
    have h2 := ih fun v hv => h v (List.mem_cons_of_mem _ hv)
    rw [List.length_cons, Nat.succ_mul]
    cases r with
    | nil => show w.length ≤ _; omega
    | cons w' r =>
      rw [jn_cons, List.length_append, List.length_append]
      omega
theorem djoin {y : List Nat} {ws : List (List Nat)} {B m : Nat} (hy : ∀ c ∈ y, c < 128) (h : ∀ w ∈ ws, Tx w B) (hm : ws.length ≤ m) (hb : m * (B + y.length) ≤ 100000) :
    dJoin (tD y) (.list (ws.map tD)) = some (tD (jn y ws)) ∧ Tx (jn y ws) (m * (B + y.length)) := by
  have e1 : strsD (ws.map tD) = some (ws.map strOf) := by
    have := strsD_map (ws.map strOf)
    rw [List.map_map] at this
    exact this
  have hle : ws.length * (B + y.length) ≤ m * (B + y.length) := Nat.mul_le_mul_right _ hm
  have hk : JoinOk (strOf y) (ws.map strOf) = true := by
    unfold JoinOk
    rw [PySem.StrLaws.joinFits (B := B) (fun v hv => by
      obtain ⟨w, hw, rfl⟩ := List.mem_map.mp hv
      rw [len_strOf]
      exact (h w hw).2) (by rw [List.length_map, len_strOf, ← Nat.mul_add]; omega)]
    rfl
  refine ⟨?_, fun c hc => ?_, Nat.le_trans (jn_len fun w hw => (h w hw).2) hle⟩
  · show (strsD (ws.map tD)).bind _ = _
    rw [e1]
    show (if JoinOk (strOf y) (ws.map strOf) = true then some (PyData.str (Txt.join (strOf y) (ws.map strOf))) else none) = _
    rw [if_pos hk, join_strOf]
    rfl
  · rcases jn_mem hc with hc | ⟨w, hw, hc⟩
    · exact hy c hc
    · exact (h w hw).1 c hc
theorem word_ex {a b : Int} (ha : a.natAbs < 10 ^ 62) (hb : b.natAbs < 10 ^ 62) : ∃ sa sb w, gStr [.int a] = some (tD sa) ∧ gStr [.int b] = some (tD sb) ∧ dAddS (tD sa) (.str ",") = some (tD (sa ++ [44])) ∧ dAddS (tD (sa ++ [44])) (tD sb) = some (tD w) ∧ Tx w 130 := by
  obtain ⟨sa, ea, h1, h2⟩ := str_S ha
  obtain ⟨sb, eb, h3, h4⟩ := str_S hb
  have a1 := addS (a := sa) (b := [44]) (by simp; omega)
  rw [← comma_S] at a1
  have a2 := addS (a := sa ++ [44]) (b := sb) (by simp; omega)
  exact ⟨sa, sb, _, ea, eb, a1, a2, app_128 (app_128 h1 (one_128 (by decide))) h3, by simp; omega⟩
def PDs (ws : List (List Nat)) : List D := ws.map tD
theorem words_in (c k : Int) (P : List D) (s4 s5 s6 : Sl) (n : Nat) (hn : n ≤ 5) : ∃ ws s4' s5' s6', forP (bs1 4) l__law_text_2 (rangeD 0 n) [.sh (.int c), .ow P, .sh (.int k), .ow [], s4, s5, s6, .no] = some (.nx [.sh (.int c), .ow P, .sh (.int k), .ow (PDs ws), s4', s5', s6', .no]) ∧ (∀ w ∈ ws, Tx w 130) ∧ ws.length = n := by
  have loop := for_range_inv (bs := bs1 4) (F := l__law_text_2) (lo := 0) (fun i ρ => ∃ ws s4 s5 s6, ρ = [.sh (.int c), .ow P, .sh (.int k), .ow (PDs ws), s4, s5, s6, .no] ∧ (∀ w ∈ ws, Tx w 130) ∧ ws.length = i) n ?_
    [.sh (.int c), .ow P, .sh (.int k), .ow [], s4, s5, s6, .no] ⟨[], _, _, _, rfl, fun w h => absurd h List.not_mem_nil, rfl⟩
  · obtain ⟨ρ', hf, ws, s4', s5', s6', rfl, h1, h2⟩ := loop
    exact ⟨ws, s4', s5', s6', hf, h1, h2⟩
  · rintro i ρ hi ⟨ws, s4, s5, s6, rfl, hw, hl⟩
    obtain ⟨z, hz, hz0⟩ := mixed_ex c (10 + 9 * k + (0 + (i : Int)))
    have m30 := m_pos (z / 4) (b := 30) (by decide)
    have m11 := m_pos (z / 120) (b := 11) (by decide)
    have big : (10 : Nat) ^ 62 > 100 := by decide
    obtain ⟨sa, sb, w, ea, eb, a1, a2, tw⟩ := word_ex (a := z / 4 % 30 - 9) (b := z / 120 % 11) (by omega) (by omega)
    clear big
    have hp : (PDs ws).length < 16777216 := by unfold PDs; rw [List.length_map]; omega
    have hfin : ∀ v, (v = [46] ∨ v = w) → Tx v 130 := fun v hv => by
      rcases hv with rfl | rfl
      · exact ⟨one_128 (by decide), by decide⟩
      · exact tw
    have step : ∃ v, (v = [46] ∨ v = w) ∧ l__law_text_2 [.sh (.int c), .ow P, .sh (.int k), .ow (PDs ws), .sh (.int (0 + (i : Int))), s5, s6, .no] = some (.nx [.sh (.int c), .ow P, .sh (.int k), .ow (PDs ws ++ [tD v]), .sh (.int (0 + (i : Int))), .sh (.int z), .sh (tD w), .no]) := by
      unfold l__law_text_2
      by_cases h4 : z % 4 > 1
      · refine ⟨w, .inr rfl, ?_⟩
        generalize (0 + (i : Int)) = j at *
        generalize tD w = W at *
        generalize tD sa = U at *
        generalize tD sb = V at *
        generalize tD (sa ++ [44]) = Y at *
        generalize PDs ws = Q at *
        clear hw hl hfin tw m30 m11 hz0 hi hn
        walk_at "pu"
      · refine ⟨[46], .inl rfl, ?_⟩
        have e46 : tD [46] = .str "." := by unfold tD; rw [← dot_S]
        rw [e46]
        generalize (0 + (i : Int)) = j at *
        generalize tD w = W at *
        generalize tD sa = U at *
        generalize tD sb = V at *
        generalize tD (sa ++ [44]) = Y at *
        generalize PDs ws = Q at *
        clear hw hl hfin tw m30 m11 hz0 hi hn e46
        walk_at "pu"
    obtain ⟨v, hv, st⟩ := step
    have ePD : PDs (ws ++ [v]) = PDs ws ++ [tD v] := by unfold PDs; rw [List.map_append]; rfl
    refine ⟨_, _, rfl, st, ws ++ [v], .sh (.int (0 + (i : Int))), .sh (.int z), .sh (tD w), by rw [ePD], fun u hu => ?_, by simp [hl]⟩
    · rcases List.mem_append.mp hu with hu | hu
      · exact hw u hu
      · rw [List.mem_singleton.mp hu]
        exact hfin v hv
theorem space_D : tD [32] = .str " " := by unfold tD; rw [← space_S]
theorem slash_D : tD [32, 47, 32] = .str " / " := by unfold tD; rw [← slash_S]
theorem part_ex (c k : Int) (ps : List (List Nat)) (hps : ps.length ≤ 5) (s3 s4 s5 s6 : Sl) : ∃ w s3' s4' s5' s6', l__law_text_1 [.sh (.int c), .ow (PDs ps), .sh (.int k), s3, s4, s5, s6, .no] = some (.nx [.sh (.int c), .ow (PDs ps ++ [tD w]), .sh (.int k), s3', s4', s5', s6', .no]) ∧ Tx w 700 := by
  obtain ⟨z, hz, hz0⟩ := mixed_ex c k
  have m5 := m_pos (z / 3) (b := 5) (by decide)
  obtain ⟨ws, s4', s5', s6', hf, hw, hl⟩ := words_in c k (PDs ps) s4 s5 s6 (1 + z / 3 % 5).toNat (by omega)
  have hr : gRange1 [.int (1 + z / 3 % 5)] = some (rangeD 0 (1 + z / 3 % 5).toNat) := gRange1_int _ ⟨by omega, by omega⟩
  obtain ⟨hj, ht⟩ := djoin (y := [32]) (m := 5) (one_128 (by decide)) hw (by omega) (by decide)
  rw [space_D] at hj
  refine ⟨jn [32] ws, .ow (PDs ws), s4', s5', s6', ?_, ht.le (by decide)⟩
  unfold l__law_text_1
  refine sq_nx (ρ' := [.sh (.int c), .ow (PDs ps), .sh (.int k), .ow [], s4, s5, s6, .no]) rfl ?_
  refine sq_nx (ρ' := [.sh (.int c), .ow (PDs ps), .sh (.int k), .ow (PDs ws), s4', s5', s6', .no]) ?_ ?_
  · refine (for_eq ?_).trans hf
    generalize rangeD 0 (1 + z / 3 % 5).toNat = RR at *
    clear hf hj ht hw hl hz0
    walk_at "pu"
  · have hj : dJoin (.str " ") (.list (PDs ws)) = some (tD (jn [32] ws)) := hj
    have hfl : flatD (tD (jn [32] ws)) = true := rfl
    have hp : (PDs ps).length < 16777216 := by unfold PDs; rw [List.length_map]; omega
    generalize tD (jn [32] ws) = T at *
    generalize PDs ws = Q at *
    generalize PDs ps = Q2 at *
    clear hf ht hw hl hz0 hr m5 hz hps
    walk_at "pu"
theorem PDs_erase : ∀ (ps : List (List Nat)) (k : Nat), PDs (ps.eraseIdx k) = (PDs ps).eraseIdx k
  | [], _ => rfl
  | _ :: _, 0 => rfl
  | a :: r, k + 1 => congrArg (tD a :: ·) (PDs_erase r k)
theorem PDs_ins (ps : List (List Nat)) (w : List Nat) (k : Nat) : PDs (ps.take k ++ w :: ps.drop k) = (PDs ps).take k ++ tD w :: (PDs ps).drop k := by
  unfold PDs
  rw [List.map_append, List.map_cons, List.map_take, List.map_drop]
theorem text_ex (c : Int) : ∃ cs, m__law_text [.int c] = some (tD cs) ∧ Tx cs 3000 := by
  obtain ⟨w0, a3, a4, a5, a6, l0, t0⟩ := part_ex c 0 [] (by decide) .no .no .no .no
  obtain ⟨w1, b3, b4, b5, b6, l1, t1⟩ := part_ex c 1 [w0] (by simp) a3 a4 a5 a6
  have loop : pFor (pCallL gRange1 (pCons (pCon (.int 2)) pNil)) (bs1 2) l__law_text_1 [.sh (.int c), .ow [], .no, .no, .no, .no, .no, .no] = some (.nx [.sh (.int c), .ow (PDs [w0, w1]), .sh (.int 1), b3, b4, b5, b6, .no]) := by
    refine (for_eq (items := [.int 0, .int 1]) rfl).trans ?_
    rw [forP_nx rfl l0]
    exact (forP_nx rfl l1).trans rfl
  have m2 := m_pos (c / 3) (b := 2) (by decide)
  have m3 := m_pos (c / 6) (b := 3) (by decide)
  have big : (10 : Nat) ^ 62 > 100 := by decide
  obtain ⟨sa, sb, w2, ea, eb, e1, e2, t2⟩ := word_ex (a := c / 3 % 2) (b := c / 6 % 3) (by omega) (by omega)
  clear big
  have app : pApp 1 (vS (pOp dAddS (pOp dAddS (pCall gStr (pCons (pOp dMod (pOp dDiv (pVar 0) (pCon (.int 3))) (pCon (.int 2))) pNil)) (pCon (.str ","))) (pCall gStr (pCons (pOp dMod (pOp dDiv (pVar 0) (pCon (.int 6))) (pCon (.int 3))) pNil)))) [.sh (.int c), .ow (PDs [w0, w1]), .sh (.int 1), b3, b4, b5, b6, .no] = some (.nx [.sh (.int c), .ow (PDs [w0, w1, w2]), .sh (.int 1), b3, b4, b5, b6, .no]) := by
    rw [show PDs [w0, w1, w2] = PDs [w0, w1] ++ [tD w2] from rfl]
    have hp : (PDs [w0, w1]).length < 16777216 := by show 2 < 16777216; decide
    generalize PDs [w0, w1] = Q at *
    generalize tD w2 = W at *
    generalize tD sa = U at *
    generalize tD sb = V at *
    generalize tD (sa ++ [44]) = Y at *
    clear l0 l1 loop t0 t1 t2 m2 m3
    walk_at "pu"
  have all3 : ∀ w ∈ [w0, w1, w2], Tx w 700 := fun w hw => by
    simp only [List.mem_cons, List.mem_nil_iff, or_false] at hw
    rcases hw with rfl | rfl | rfl
    · exact t0
    · exact t1
    · exact t2.le (by decide)
  have way : pSet 7 (vS (pOp dMod (pOp dDiv (pVar 0) (pCon (.int 18))) (pCon (.int 12)))) [.sh (.int c), .ow (PDs [w0, w1, w2]), .sh (.int 1), b3, b4, b5, b6, .no] = some (.nx [.sh (.int c), .ow (PDs [w0, w1, w2]), .sh (.int 1), b3, b4, b5, b6, .sh (.int (c / 18 % 12))]) := by
    generalize PDs [w0, w1, w2] = Q at *
    clear l0 l1 loop t0 t1 t2 m2 m3 app all3 ea eb e1 e2
    walk_at "pu"
  generalize hy : c / 18 % 12 = y at *
  have tail : ∀ ps : List (List Nat), (∀ w ∈ ps, Tx w 700) → ps.length ≤ 4 → (pSq (pIfS (pTest (pOp dEq (pVar 7) (pCon (.int 0)))) (pPopI 1 (pOp dMod (pOp dDiv (pVar 0) (pCon (.int 300))) (pCon (.int 3)))) pNx)
    (pSq (pIfS (pTest (pOp dEq (pVar 7) (pCon (.int 1)))) (pInsT 1 (pOp dMod (pOp dDiv (pVar 0) (pCon (.int 300))) (pCon (.int 4))) (pOp dIx (pVar 1) (pCon (.int 0)))) pNx)
    (pSq (pIfS (pTest (pOp dEq (pVar 7) (pCon (.int 2)))) (pSet 1 (vLF (pRev (pVar 1)))) pNx)
    (pRet (pOp dJoin (pCon (.str " / ")) (pVar 1)))))) [.sh (.int c), .ow (PDs [w0, w1, w2]), .sh (.int 1), b3, b4, b5, b6, .sh (.int y)] = pRet (pOp dJoin (pCon (.str " / ")) (pVar 1)) [.sh (.int c), .ow (PDs ps), .sh (.int 1), b3, b4, b5, b6, .sh (.int y)] →
      ∃ cs, m__law_text [.int c] = some (tD cs) ∧ Tx cs 3000 := by
    intro ps hps hl he
    obtain ⟨hj, ht⟩ := djoin (y := [32, 47, 32]) (m := 4) (fun c hc => by simp at hc; omega) hps hl (by decide)
    rw [slash_D] at hj
    refine ⟨_, runF_of (o := .rt (tD (jn [32, 47, 32] ps))) rfl ?_ rfl, ht.le (by decide)⟩
    refine sq_nx (ρ' := [.sh (.int c), .ow [], .no, .no, .no, .no, .no, .no]) rfl (sq_nx loop (sq_nx app (sq_nx way (he.trans ?_))))
    show Option.bind (dJoin (.str " / ") (.list (PDs ps))) _ = _
    rw [show PDs ps = ps.map tD from rfl, hj]
    rfl
  have n3 := m_pos (c / 300) (b := 3) (by decide)
  have n4 := m_pos (c / 300) (b := 4) (by decide)
  have t_eq : ∀ (k : Int) (Q : List D), (pTest (pOp dEq (pVar 7) (pCon (.int k)))) (full [.sh (.int c), .ow Q, .sh (.int 1), b3, b4, b5, b6, .sh (.int y)]) = some (decide (y = k)) := fun k Q => by
    show Option.bind (dEq (.int y) (.int k)) _ = _
    rw [dEq_int]
    rfl
  have skip : ∀ (k : Int) (F : PSt) (Q : List D), y ≠ k → pIfS (pTest (pOp dEq (pVar 7) (pCon (.int k)))) F pNx [.sh (.int c), .ow Q, .sh (.int 1), b3, b4, b5, b6, .sh (.int y)] = some (.nx [.sh (.int c), .ow Q, .sh (.int 1), b3, b4, b5, b6, .sh (.int y)]) := fun k F Q hk => by
    show Option.bind _ _ = _
    rw [t_eq k Q, decide_eq_false hk]
    rfl
  have take : ∀ (k : Int) (F : PSt) (Q : List D), y = k → pIfS (pTest (pOp dEq (pVar 7) (pCon (.int k)))) F pNx [.sh (.int c), .ow Q, .sh (.int 1), b3, b4, b5, b6, .sh (.int y)] = F [.sh (.int c), .ow Q, .sh (.int 1), b3, b4, b5, b6, .sh (.int y)] := fun k F Q hk => by
    show Option.bind _ _ = _
    rw [t_eq k Q, decide_eq_true hk]
    rfl
  have d300 : ∀ (m : Int) (Q : List D), 0 < m → m < 1000 → (pOp dMod (pOp dDiv (pVar 0) (pCon (.int 300))) (pCon (.int m))) (full [.sh (.int c), .ow Q, .sh (.int 1), b3, b4, b5, b6, .sh (.int y)]) = some (.int (c / 300 % m)) := fun m Q h1 h2 => by
    have hm1 : m < 1073741824 := by omega
    show Option.bind (Option.bind (dDiv (.int c) (.int 300)) _) _ = _
    rw [dDiv_int, if_pos (by decide)]
    show dMod (.int (c / 300)) (.int m) = _
    rw [dMod_int, if_pos h1]
  have sub : ∀ {ps : List (List Nat)}, (∀ w ∈ ps, w ∈ [w0, w1, w2]) → ∀ w ∈ ps, Tx w 700 := fun {ps} h w hw => all3 w (h w hw)
  by_cases y0 : y = 0
  · refine tail ([w0, w1, w2].eraseIdx (c / 300 % 3).toNat) (sub fun w hw => List.mem_of_mem_eraseIdx hw) (Nat.le_trans (List.length_eraseIdx_le _ _) (by simp)) ?_
    refine sq_nx ?_ (sq_nx (skip 1 _ _ (by omega)) (sq_nx (skip 2 _ _ (by omega)) rfl))
    rw [take 0 _ _ y0]
    unfold pPopI
    rw [d300 3 _ (by decide) (by decide), bnd_some]
    show (if 0 ≤ c / 300 % 3 ∧ c / 300 % 3 < 3 ∧ fits 3 = true then some (Out.nx [.sh (.int c), .ow ((PDs [w0, w1, w2]).eraseIdx (c / 300 % 3).toNat), .sh (.int 1), b3, b4, b5, b6, .sh (.int y)]) else none) = _
    rw [if_pos ⟨n3.1, n3.2, by decide⟩]
    rw [PDs_erase]
  by_cases y1 : y = 1
  · refine tail ([w0, w1, w2].take (c / 300 % 4).toNat ++ w0 :: [w0, w1, w2].drop (c / 300 % 4).toNat) (sub fun w hw => ?_) ?_ ?_
    · rcases List.mem_append.mp hw with hw | hw
      · exact List.mem_of_mem_take hw
      · rcases List.mem_cons.mp hw with rfl | hw
        · simp
        · exact List.mem_of_mem_drop hw
    · rw [List.length_append, List.length_cons, List.length_take, List.length_drop]
      simp
      omega
    · refine sq_nx (skip 0 _ _ y0) (sq_nx ?_ (sq_nx (skip 2 _ _ (by omega)) rfl))
      rw [take 1 _ _ y1]
      unfold pInsT
      rw [d300 4 _ (by decide) (by decide), bnd_some]
      show (if 0 ≤ c / 300 % 4 ∧ (c / 300 % 4).toNat ≤ 3 ∧ fits 3 = true then some (Out.nx [.sh (.int c), .ow ((PDs [w0, w1, w2]).take (c / 300 % 4).toNat ++ tD w0 :: (PDs [w0, w1, w2]).drop (c / 300 % 4).toNat), .sh (.int 1), b3, b4, b5, b6, .sh (.int y)]) else none) = _
      rw [if_pos ⟨n4.1, by omega, by decide⟩]
      rw [PDs_ins]
  by_cases y2 : y = 2
  · refine tail [w2, w1, w0] (sub fun w hw => by simp at hw ⊢; rcases hw with h | h | h <;> simp [h]) (by simp) ?_
    refine sq_nx (skip 0 _ _ y0) (sq_nx (skip 1 _ _ y1) (sq_nx ?_ rfl))
    rw [take 2 _ _ y2]
    rfl
  · exact tail [w0, w1, w2] all3 (by simp) (sq_nx (skip 0 _ _ y0) (sq_nx (skip 1 _ _ y1) (sq_nx (skip 2 _ _ y2) rfl)))
theorem spoilt_ex (c : Int) {cs : List Nat} (h : Tx cs 3000) : ∃ ds, m__law_spoilt [.str (strOf cs), .int c] = some (.str (strOf ds)) ∧ Tx ds 3010 := by
  have hsz : sizeLine = 16777216 := sizeLine_eq
  have h2 := h.2
  have m12 := m_pos (c / 900) (b := 12) (by decide)
  have m8 := m_pos c (b := 8) (by decide)
  have ma := m_pos (c / 8) (b := (cs.length : Int) + 1) (by omega)
  obtain ⟨at', hat⟩ := Int.eq_ofNat_of_zero_le ma.1
  have hat' : at' ≤ cs.length := by omega
  obtain ⟨g, hg, hs⟩ := sign_S (x := " .,/-07+_a\t\n") (n := 12) (by decide +kernel) (by decide +kernel) (by rw [hsz]; decide +kernel) m12.1 m12.2
  have hlen := len_S (cs := cs) (by omega)
  have e1 := cut_to hat'
  have e2 := cut_from hat'
  have e3 := cut_succ cs hat'
  have hle : (strOf cs).length ≤ sizeLine := by rw [len_strOf]; omega
  have ht := List.length_take_le at' cs
  have a1 := addS (a := cs.take at') (b := [g]) (by simp; omega)
  have a2 := addS (a := cs.take at' ++ [g]) (b := cs.drop at') (by simp; omega)
  have a3 := addS (a := cs.take at' ++ [g]) (b := cs.drop (at' + 1)) (by simp; omega)
  have a4 := addS (a := cs.take at') (b := cs.drop (at' + 1)) (by simp; omega)
  have T1 : ∀ c ∈ cs.take at', c < 128 := take_128 h.1 at'
  have T2 : ∀ c ∈ cs.take at' ++ [g], c < 128 := app_128 T1 (one_128 hg)
  have b1 : 0 < (cs.length : Int) + 1 := by omega
  have b2 : (cs.length : Int) + 1 < 1073741824 := by omega
  have hd : dMod (.int (c / 8)) (.int ((cs.length : Int) + 1)) = some (.int (at' : Int)) := by rw [dMod_int, if_pos b1, hat]
  have key : ∀ o, (pSq (pIfS (pTest (pOp dLt (pOp dMod (pVar 1) (pCon (.int 8))) (pCon (.int 3)))) (pRet (pVar 0)) pNx)
      (pSq (pIfS (pTest (pOp dLt (pOp dMod (pVar 1) (pCon (.int 8))) (pCon (.int 5)))) (pRet (pOp dAddS (pOp dAddS (pSlS (pVar 0) pNoPart (pPart (pVar 2))) (pVar 3)) (pSlS (pVar 0) (pPart (pVar 2)) pNoPart))) pNx)
      (pSq (pIfS (pTest (pOp dLt (pOp dMod (pVar 1) (pCon (.int 8))) (pCon (.int 7)))) (pRet (pOp dAddS (pOp dAddS (pSlS (pVar 0) pNoPart (pPart (pVar 2))) (pVar 3)) (pSlS (pVar 0) (pPart (pOp dAdd (pVar 2) (pCon (.int 1)))) pNoPart))) pNx)
      (pRet (pOp dAddS (pSlS (pVar 0) pNoPart (pPart (pVar 2))) (pSlS (pVar 0) (pPart (pOp dAdd (pVar 2) (pCon (.int 1)))) pNoPart)))))) [.sh (.str (strOf cs)), .sh (.int c), .sh (.int (at' : Int)), .sh (.str (strOf [g]))] = some (.rt o) → m__law_spoilt [.str (strOf cs), .int c] = some o := by
    intro o ho
    refine runF_of (o := .rt o) rfl ?_ rfl
    unfold b__law_spoilt
    refine sq_nx (ρ' := [.sh (.str (strOf cs)), .sh (.int c), .sh (.int (at' : Int)), .no]) ?_ ?_
    · generalize strOf cs = S at *
      clear ho e1 e2 e3 a1 a2 a3 a4 T1 T2 hs hat h hle
      walk_at "pu"
    refine sq_nx (ρ' := [.sh (.str (strOf cs)), .sh (.int c), .sh (.int (at' : Int)), .sh (.str (strOf [g]))]) ?_ ho
    generalize strOf cs = S at *
    generalize strOf [g] = G at *
    clear ho e1 e2 e3 a1 a2 a3 a4 T1 T2 hat h hle hlen hd
    walk_at "pu"
  by_cases c3 : c % 8 < 3
  · refine ⟨cs, key _ ?_, h.1, by omega⟩
    refine sq_rt ?_
    generalize strOf cs = S at *
    generalize strOf [g] = G at *
    clear key e1 e2 e3 a1 a2 a3 a4 T1 T2 hs hat h hle hlen hd
    walk_at "pu"
  by_cases c5 : c % 8 < 5
  · refine ⟨_, key (.str (strOf (cs.take at' ++ [g] ++ cs.drop at'))) ?_, app_128 T2 (drop_128 h.1 _), by simp; omega⟩
    refine sq_nx (ρ' := [.sh (.str (strOf cs)), .sh (.int c), .sh (.int (at' : Int)), .sh (.str (strOf [g]))]) (by clear key e1 e2 e3 a1 a2 a3 a4 T1 T2 hs hat h hle hlen hd; generalize strOf cs = S at *; generalize strOf [g] = G at *; walk_at "pu") ?_
    refine sq_rt ?_
    clear key a3 a4 e3
    generalize strOf (cs.take at' ++ [g] ++ cs.drop at') = X4 at *
    generalize strOf (cs.take at' ++ [g]) = X3 at *
    generalize strOf (cs.take at') = X1 at *
    generalize strOf (cs.drop at') = X2 at *
    generalize strOf cs = S at *
    generalize strOf [g] = G at *
    clear T1 T2 hs hat h hlen hd c3 hsz
    walk_at "pu"
  by_cases c7 : c % 8 < 7
  · refine ⟨_, key (.str (strOf (cs.take at' ++ [g] ++ cs.drop (at' + 1)))) ?_, app_128 T2 (drop_128 h.1 _), by simp; omega⟩
    refine sq_nx (ρ' := [.sh (.str (strOf cs)), .sh (.int c), .sh (.int (at' : Int)), .sh (.str (strOf [g]))]) (by clear key e1 e2 e3 a1 a2 a3 a4 T1 T2 hs hat h hle hlen hd; generalize strOf cs = S at *; generalize strOf [g] = G at *; walk_at "pu") ?_
    refine sq_nx (ρ' := [.sh (.str (strOf cs)), .sh (.int c), .sh (.int (at' : Int)), .sh (.str (strOf [g]))]) (by clear key e1 e2 e3 a1 a2 a3 a4 T1 T2 hs hat h hle hlen hd c3; generalize strOf cs = S at *; generalize strOf [g] = G at *; walk_at "pu") ?_
    refine sq_rt ?_
    clear key a2 a4 e2
    generalize strOf (cs.take at' ++ [g] ++ cs.drop (at' + 1)) = X4 at *
    generalize strOf (cs.take at' ++ [g]) = X3 at *
    generalize strOf (cs.take at') = X1 at *
    generalize strOf (cs.drop (at' + 1)) = X2 at *
    generalize strOf cs = S at *
    generalize strOf [g] = G at *
    clear T1 T2 hs hat h hlen hd c3 c5 hsz
    walk_at "pu"
  · refine ⟨_, key (.str (strOf (cs.take at' ++ cs.drop (at' + 1)))) ?_, app_128 T1 (drop_128 h.1 _), by simp; omega⟩
    refine sq_nx (ρ' := [.sh (.str (strOf cs)), .sh (.int c), .sh (.int (at' : Int)), .sh (.str (strOf [g]))]) (by clear key e1 e2 e3 a1 a2 a3 a4 T1 T2 hs hat h hle hlen hd; generalize strOf cs = S at *; generalize strOf [g] = G at *; walk_at "pu") ?_
    refine sq_nx (ρ' := [.sh (.str (strOf cs)), .sh (.int c), .sh (.int (at' : Int)), .sh (.str (strOf [g]))]) (by clear key e1 e2 e3 a1 a2 a3 a4 T1 T2 hs hat h hle hlen hd c3; generalize strOf cs = S at *; generalize strOf [g] = G at *; walk_at "pu") ?_
    refine sq_nx (ρ' := [.sh (.str (strOf cs)), .sh (.int c), .sh (.int (at' : Int)), .sh (.str (strOf [g]))]) (by clear key e1 e2 e3 a1 a2 a3 a4 T1 T2 hs hat h hle hlen hd c3 c5; generalize strOf cs = S at *; generalize strOf [g] = G at *; walk_at "pu") ?_
    clear key a1 a2 a3 e2
    generalize strOf (cs.take at' ++ cs.drop (at' + 1)) = X4 at *
    generalize strOf (cs.take at') = X1 at *
    generalize strOf (cs.drop (at' + 1)) = X2 at *
    generalize strOf cs = S at *
    generalize strOf [g] = G at *
    clear T1 T2 hs hat h hlen hd c3 c5 hsz
    walk_at "pu"
theorem try_eq {iF iK j : Nat} {x1 : Str} {r : PAs} {fp : List D → Option D} {gp : List D → Option Str} {ρ : SEnv} {as : List D} (h1 : isNo ρ[j]? = true) (h2 : iK ≠ j) (h3 : iF ≠ j) (h4 : iK < ρ.length) (hr : r (masked ρ) = some as) :
    (∀ d, fp as = some d → pTryA iF iK j x1 r fp gp ρ = some (.nx (ρ.set iF (.sh d)))) ∧ (fp as = none → gp as = some x1 → pTryA iF iK j x1 r fp gp ρ = some (.nx (ρ.set iK (.sh (.list [.bool true, .bool false, .bool true]))))) := by
  unfold pTryA
  rw [if_pos ⟨h1, h2, h3, h4⟩, hr, bnd_some]
  constructor
  · intro d hd
    rw [hd]
  · intro hn hg
    rw [hn]
    show (gp as).bind _ = _
    rw [hg, bnd_some, if_pos rfl]
theorem right_yes {d : D} {v : List (List Thing)} (h : m_read_disk [d] = some (kD v)) : m__law_right [d, kD v] = some (.bool true) := by
  have t := (try_eq (iF := 3) (iK := 2) (j := 4) (x1 := "NoText") (r := pCons (pVar 0) pNil) (fp := m_read_disk) (gp := mx_read_disk) (ρ := [.sh d, .sh (kD v), .sh (.list []), .sh .none, .no]) (as := [d]) rfl (by decide) (by decide) (by show 2 < 5; decide) rfl).1 _ h
  have he : dEq (.list []) (.list []) = some (.bool true) := dEq_ints_nil []
  have hv := enc_Kd.dEq (by decide) v v
  rw [decide_eq_true rfl] at hv
  have hno : dIsN (kD v) .none = some (.bool false) := rfl
  generalize kD v = V at *
  refine runF_of (o := .rt (.bool true)) rfl ?_ rfl
  unfold b__law_right
  refine sq_nx (ρ' := [.sh d, .sh V, .sh (.list []), .no, .no]) (by clear t h he hv hno; walk_at "pu") ?_
  refine sq_nx (ρ' := [.sh d, .sh V, .sh (.list []), .sh .none, .no]) (by clear t h he hv hno; walk_at "pu") ?_
  refine sq_nx t ?_
  clear t h
  show pSq _ _ [.sh d, .sh V, .sh (.list []), .sh V, .no] = _
  refine sq_nx (ρ' := [.sh d, .sh V, .sh (.list []), .sh V, .no]) ?_ (by clear hno; walk_at "pu")
  show Option.bind (Option.bind (dIsN V .none) _) _ = _
  rw [hno]
  rfl
theorem right_no {d : D} (h : m_read_disk [d] = none ∧ mx_read_disk [d] = some "NoText") : m__law_right [d, .none] = some (.bool true) := by
  have t := (try_eq (iF := 3) (iK := 2) (j := 4) (x1 := "NoText") (r := pCons (pVar 0) pNil) (fp := m_read_disk) (gp := mx_read_disk) (ρ := [.sh d, .sh .none, .sh (.list []), .sh .none, .no]) (as := [d]) rfl (by decide) (by decide) (by show 2 < 5; decide) rfl).2 h.1 h.2
  have he : dEq (.list [.bool true, .bool false, .bool true]) (.list [.bool true, .bool false, .bool true]) = some (.bool true) := by
    unfold dEq
    rw [if_pos ⟨by decide +kernel, by decide +kernel⟩]
    rfl
  refine runF_of (o := .rt (.bool true)) rfl ?_ rfl
  unfold b__law_right
  refine sq_nx (ρ' := [.sh d, .sh .none, .sh (.list []), .no, .no]) (by clear t h he; walk_at "pu") ?_
  refine sq_nx (ρ' := [.sh d, .sh .none, .sh (.list []), .sh .none, .no]) (by clear t h he; walk_at "pu") ?_
  refine sq_nx t ?_
  clear t h
  show pSq _ _ [.sh d, .sh .none, .sh (.list [.bool true, .bool false, .bool true]), .sh .none, .no] = _
  refine sq_rt ?_
  walk_at "pu"
theorem right_text {cs : List Nat} (h : Tx cs 3010) : ∃ due, m__law_due [tD cs] = some due ∧ m__law_right [tD cs, due] = some (.bool true) := by
  refine ⟨_, law_due h (by decide), ?_⟩
  have hr := rd_disk h (by decide)
  cases e : dk? cs with
  | none =>
    rw [e] at hr
    exact right_no hr
  | some v =>
    rw [e] at hr
    exact right_yes hr
def Odd (d : D) : Prop := m__law_right [d, .none] = some (.bool true)
theorem odd_str {x : Str} (h1 : x.cps.toList.all (fun c => decide (c < 128)) = true) (h2 : x.cps.toList.length ≤ 3000) (h3 : (dk? x.cps.toList).isNone = true) : Odd (.str x) := by
  have hx : (PyData.str x : D) = tD x.cps.toList := by unfold tD; rw [strOf_toList]
  have hr := rd_disk (cs := x.cps.toList) (n := 3000) ⟨fun c hc => of_decide_eq_true (List.all_eq_true.mp h1 c hc), h2⟩ (by decide)
  unfold Odd
  rw [hx]
  rw [Option.isNone_iff_eq_none.mp h3] at hr
  exact right_no hr
theorem read_odd {d : D} (h : subT (tyD d) "str" = false) : m_read_disk [d] = none ∧ mx_read_disk [d] = some "NoText" := by
  have hc : (pNotT (pTest (pIsi "str" (pVar 0)))) [some d, none] = some true := by
    walk_at "pu"
  constructor
  · show Option.bind (Option.bind (Option.bind ((pNotT (pTest (pIsi "str" (pVar 0)))) [some d, none]) _) _) _ = _
    rw [hc]
    rfl
  · show gx_read_disk [.sh d, .no] = _
    exact gsq_some (by
      show Option.bind ((pNotT (pTest (pIsi "str" (pVar 0)))) [some d, none]) _ = _
      rw [hc]
      rfl)
def odds : List D := [.str "", .str " / ", .str ". / . / ", .str " / . / 0,0", .str ". / . / .", .str ".  . / . / 0,0", .str ". / . / 0,0 "]
def odds2 : List D := [.str ". /. / 0,0", .str ". . 0,0", .none, .int 7, .bool true, .list [.str ". / . / 0,0"], .tuple [.str ".", .str ".", .str "0,0"], .list [.list [.tuple []], .list [.tuple []], .list [.tuple [.int 0, .int 0]]]]
theorem odds_ok : ∀ d ∈ odds ++ odds2, Odd d := by
  intro d hd
  simp only [odds, odds2, List.cons_append, List.nil_append, List.mem_cons, List.mem_nil_iff, or_false] at hd
  rcases hd with rfl | rfl | rfl | rfl | rfl | rfl | rfl | rfl | rfl | rfl | rfl | rfl | rfl | rfl | rfl <;> first | exact right_no (read_odd (by decide +kernel)) | exact odd_str (by decide +kernel) (by decide +kernel) (by decide +kernel)
theorem holds (ns : List Int) (hns : ns.length ≤ 63) : m_law [.list (ns.map PyData.int)] = some (.bool true) := by
  obtain ⟨cs, hcs, hcl⟩ := cut_ints ns none (some 15)
  have hc1 : 1 + cs.length < 16777216 := by omega
  obtain ⟨zs, hz, hzl, hz0⟩ := spreads_comp (0 :: cs) (by simp; omega) (fi := pItL (pOfL (pCat (pOfL (pLst (pCons (pCon (.int 0)) pNil))) (pOfL (pSl (pVar 0) pNoPart (pPart (pCon (.int 15)))))))) (ρ := [some (.list (ns.map PyData.int)), none, none, none]) (by clear hns; walk_at "pu")
  have loop := for_inv (bs := bs1 1) (F := l_law_1) PyData.int (fun (_ : Unit) ρ => ∃ s1 s2 s3, ρ = [.sh (.list (ns.map PyData.int)), s1, s2, s3]) (fun _ _ => ()) zs ?_ ()
    [.sh (.list (ns.map PyData.int)), .no, .no, .no] ⟨_, _, _, rfl⟩
  · obtain ⟨ρ', hf, s1, s2, s3, rfl⟩ := loop
    refine runF_of (o := .rt (.bool true)) rfl ?_ rfl
    unfold b_law
    generalize pComp (pItL (pOfL (pCat (pOfL (pLst (pCons (pCon (.int 0)) pNil))) (pOfL (pSl (pVar 0) pNoPart (pPart (pCon (.int 15)))))))) (bd1 0) pTrue (pCall m__law_spread (pCons (pVar 0) pNil)) 1 [] = PC at *
    refine sq_nx ((for_eq (items := zs.map PyData.int) (by clear hf; walk_at "pu")).trans hf) (by clear hf; walk_at "pu")
  · rintro _ ρ z hzm ⟨s1, s2, s3, rfl⟩
    clear hz hzl hz0 hzm hcs hcl hc1
    obtain ⟨a, ha, hTa⟩ := text_ex z
    obtain ⟨t, ht, hTt⟩ := spoilt_ex (z / 5) hTa
    obtain ⟨due, hdue, hright⟩ := right_text hTt
    have m15 := m_pos (z / 9) (b := 15) (by decide)
    obtain ⟨o1, ho1, e1⟩ := at_mem (odds ++ odds2) (i := z / 9 % 15) m15.1 m15.2
    have r1 : m__law_right [o1, .none] = some (.bool true) := odds_ok _ ho1
    have i1 : dIx (.list (odds ++ odds2)) (.int (z / 9 % 15)) = some o1 := e1
    clear e1 ho1 hTa hTt
    generalize hS : PyData.list (ns.map PyData.int) = Sc at *
    refine ⟨_, [.sh Sc, .sh (.int z), .sh (tD t), .sh (.list (odds ++ odds2))], rfl, ?_, _, _, _, rfl⟩
    have ht : m__law_spoilt [tD a, .int (z / 5)] = some (tD t) := ht
    generalize tD t = T at *
    generalize tD a = A at *
    unfold l_law_1
    refine sq_nx (ρ' := [.sh Sc, .sh (.int z), .sh T, s3]) (by clear hdue hright r1 i1 hS; walk_at "pu") ?_
    refine sq_nx (ρ' := [.sh Sc, .sh (.int z), .sh T, s3]) (by clear ha ht r1 i1 hS; walk_at "pu") ?_
    refine sq_nx (ρ' := [.sh Sc, .sh (.int z), .sh T, .sh (.list odds)]) rfl ?_
    refine sq_nx (ρ' := [.sh Sc, .sh (.int z), .sh T, .sh (.list (odds ++ odds2))]) rfl ?_
    generalize odds ++ odds2 = O at *
    clear ha ht hdue hright hS
    walk_at "pu"
end S38
open PySem PySem.W PyProof.Rows
set_option maxRecDepth 100000 in
set_option maxHeartbeats 0 in
theorem PySem.Challenge.cw_gapshelf_k38_odd_disk_texts_holds : PySem.Challenge.rw_gapshelf_k38_odd_disk_texts.Holds := by
  w_on; o_law; k_head; (case hw => w_witness2)
  k_fill
  refine L2.walk_ofK (l := PySem.Challenge.rw_gapshelf_k38_odd_disk_texts) (n := 63) (k := 9) (x := "script") (CX := L2.CX0) (sp := L2.spLawP) rfl (by decide) rfl ⟨rfl, by decide, by decide⟩ (fun w h Y => PySem.W.kIn_of Y) ?F ?S ?C
  case S => exact fun K H a ns hl hO hS => ⟨a, ns, rfl, hS, hl, fun _ => rfl⟩
  case C => exact fun _ _ _ _ z => z
  case F =>
    intro w mg fa h KX G hmg
    refine' S38.all_mk S38.holds KX G hmg ?a0 ?l0 ?c0 ?k0 ?a1 ?l1 ?c1 ?k1 ?a2 ?l2 ?c2 ?k2 ?a3 ?l3 ?c3 ?k3 ?a4 ?l4 ?c4 ?k4 ?a5 ?l5 ?c5 ?k5 ?a6 ?l6 ?c6 ?k6 ?a7 ?l7 ?c7 ?k7 ?a8 ?l8 ?c8 ?k8 ?a9 ?l9 ?c9 ?k9 ?a10 ?l10 ?c10 ?k10 ?a11 ?l11 ?c11 ?k11 ?a12 ?l12 ?c12 ?k12 ?a13 ?l13 ?c13 ?k13 ?a14 ?l14 ?c14 ?k14 ?a15 ?l15 ?c15 ?k15 ?z_ValueError ?z_all ?z_int ?z_isinstance ?z_len ?z_range ?z_str ?z_EMPTY_PLACE ?z_FIGURES ?z_MOST_FIGURES ?q0 ?q1 ?t1 ?t2 ?t3 ?t4 ?t5 ?x0 ?x1 ?ga1 ?gt1 ?cl1 ?mB1 ?mO1 ?s1 ?i1 ?i3 ?i4
    (case a0 => k_is); (case l0 => k_is); (case c0 => k_is); (case k0 => k_is); (case a1 => k_is); (case l1 => k_is); (case c1 => k_is); (case k1 => k_is); (case a2 => k_is); (case l2 => k_is); (case c2 => k_is); (case k2 => k_is); (case a3 => k_is); (case l3 => k_is); (case c3 => k_is); (case k3 => k_is); (case a4 => k_is); (case l4 => k_is); (case c4 => k_is); (case k4 => k_is); (case a5 => k_is); (case l5 => k_is); (case c5 => k_is); (case k5 => k_is); (case a6 => k_is); (case l6 => k_is); (case c6 => k_is); (case k6 => k_is); (case a7 => k_is); (case l7 => k_is); (case c7 => k_is); (case k7 => k_is); (case a8 => k_is); (case l8 => k_is); (case c8 => k_is); (case k8 => k_is); (case a9 => k_is); (case l9 => k_is); (case c9 => k_is); (case k9 => k_is); (case a10 => k_is); (case l10 => k_is); (case c10 => k_is); (case k10 => k_is); (case a11 => k_is); (case l11 => k_is); (case c11 => k_is); (case k11 => k_is); (case a12 => k_is); (case l12 => k_is); (case c12 => k_is); (case k12 => k_is); (case a13 => k_is); (case l13 => k_is); (case c13 => k_is); (case k13 => k_is); (case a14 => k_is); (case l14 => k_is); (case c14 => k_is); (case k14 => k_is); (case a15 => k_is); (case l15 => k_is); (case c15 => k_is); (case k15 => k_is); (case z_ValueError => k_is); (case z_all => k_is); (case z_int => k_is); (case z_isinstance => k_is); (case z_len => k_is); (case z_range => k_is); (case z_str => k_is); (case z_EMPTY_PLACE => k_is); (case z_FIGURES => k_is); (case z_MOST_FIGURES => k_is); (case q0 => k_is); (case q1 => k_is); (case t1 => k_is); (case t2 => k_is); (case t3 => k_is); (case t4 => k_is); (case t5 => k_is); (case x0 => k_exc); (case x1 => k_exc); (case ga1 => k_is); (case gt1 => k_is); (case cl1 => k_is); (case mB1 => k_is); (case mO1 => k_is); (case s1 => k_is); (case i1 => kit_is); (case i3 => kit_is); (case i4 => kit_is)
#print axioms PySem.Challenge.cw_gapshelf_k38_odd_disk_texts_holds
