import PyProof.Rows.All
import Wide.All
import OpenK.AllK
import Wide.FinOn
import Lean
import PyProof.EqAt
import PyProof.EqKinds
import PyProof.TupleCall
import KE.KIntText
import PyProof.StrOps2
import PySem.Challenge.RW_gapshelf_k29_deeds_refused
theorem BZ {α : Type _} {y a : α} {l : List α} (h : a ∈ l) : a ∈ y :: l := List.mem_cons_of_mem y h
theorem By {α : Type _} {a : α} {l m : List α} (h : a ∈ m) : a ∈ l ++ m := List.mem_append_right l h
theorem Dn {α : Type _} {a : α} {l m : List α} (h : a ∈ l) : a ∈ l ++ m := List.mem_append_left m h
theorem CW {α : Type _} {a : α} {l : List α} : a ∈ a :: l := List.mem_cons_self
open PySem.W (Frag nsIn keepIn fnOf codeIn findIn mroIn kitOne mg_of mg_none_of kia_one excIn makesIn)
local macro_rules | `(tactic| walk_at "sc") => `(tactic| exact ⟨rfl, rfl, rfl, by decide +kernel, rfl, by decide +kernel, by decide +kernel⟩)
set_option Elab.async false
set_option linter.all false
set_option maxRecDepth 100000
namespace L2
open PySem PySem.Spec PyProof.Rows
abbrev Key := Sum Int Str
def uY : Key → Value → Bool
  | .inl k, v => Value.isInt k v
  | .inr x, v => Value.isStrOf x v
def ACO (w : World) : Key → Int
  | .inl k => hashInt k
  | .inr x => hashStr w x
theorem Lp : ∀ {k : Key} {v : Value}, uY k v = true → (∃ i t, k = Sum.inl i ∧ v = Value.int i t) ∨ (∃ x t, k = Sum.inr x ∧ v = Value.str x t)
  | .inl i, v, h => by
    obtain ⟨t, e⟩ := Value.isInt_shape (k := i) (v := v) h
    exact .inl ⟨i, t, rfl, e⟩
  | .inr x, v, h => by
    obtain ⟨t, e⟩ := Value.isStrOf_shape (x := x) (v := v) h
    exact .inr ⟨x, t, rfl, e⟩
theorem ADX (a b : Int) : decide ((Sum.inl a : Key) = Sum.inl b) = (a == b) := by
  by_cases e : a = b
  · subst e; simp
  · have h : ¬ (Sum.inl a : Key) = Sum.inl b := fun q => e (Sum.inl.inj q)
    rw [decide_eq_false h]
    exact (beq_eq_false_iff_ne.mpr e).symm
theorem AEH (a b : Str) : decide ((Sum.inr a : Key) = Sum.inr b) = decide (a = b) := by
  by_cases e : a = b
  · subst e; simp
  · have h : ¬ (Sum.inr a : Key) = Sum.inr b := fun q => e (Sum.inr.inj q)
    rw [decide_eq_false h, decide_eq_false e]
theorem ABP (a : Int) (b : Str) : decide ((Sum.inl a : Key) = Sum.inr b) = false := decide_eq_false (fun q => nomatch q)
theorem AEs (a : Str) (b : Int) : decide ((Sum.inr a : Key) = Sum.inl b) = false := decide_eq_false (fun q => nomatch q)
def pH (prog : Program) (w : World) : PySem.KeyKind prog w Key where
  is := uY
  hash := ACO w
  inj := fun v a b ha hb => by
    rcases Lp ha with ⟨i, t, rfl, rfl⟩ | ⟨x, t, rfl, rfl⟩
    · rcases Lp hb with ⟨j, u, rfl, e⟩ | ⟨y, u, rfl, e⟩
      · injection e with e1 _; rw [e1]
      · exact nomatch e
    · rcases Lp hb with ⟨j, u, rfl, e⟩ | ⟨y, u, rfl, e⟩
      · exact nomatch e
      · injection e with e1 _; rw [e1]
  byValue := fun k v h => by
    rcases Lp h with ⟨i, t, rfl, rfl⟩ | ⟨x, t, rfl, rfl⟩ <;> rfl
  pyHash := fun hv h => by
    rcases Lp hv with ⟨i, t, rfl, rfl⟩ | ⟨x, t, rfl, rfl⟩
    · exact wpAny_pyHash_int h
    · exact wpAny_pyHash_str h
  eqBool := fun hu hv h => by
    rcases Lp hu with ⟨i, t, rfl, rfl⟩ | ⟨x, t, rfl, rfl⟩
    · rcases Lp hv with ⟨j, u, rfl, rfl⟩ | ⟨y, u, rfl, rfl⟩
      · rw [ADX] at h; exact wpAny_eqBool_int h
      · rw [ABP] at h; exact SeqAt.EqAt.int_str i t y u _ _ _ _ h
    · rcases Lp hv with ⟨j, u, rfl, rfl⟩ | ⟨y, u, rfl, rfl⟩
      · rw [AEs] at h; exact SeqAt.EqAt.str_int x t j u _ _ _ _ h
      · rw [AEH] at h; exact wpAny_eqBool_str h
  «strs» := fun k x t v h => by
    rcases Lp h with ⟨i, u, rfl, e⟩ | ⟨y, u, rfl, e⟩
    · exact nomatch e
    · injection e with e1 _
      subst e1
      cases v <;> rfl
end L2
namespace L2
open PySem PySem.Spec PyProof.Rows
inductive V where
  | non | bl (b : Bool) | int (i : Int) | str (x : Str) | byt (b : Array UInt8) | flt (b : UInt64) | ref (a : Addr) | ty (n : String)
  deriving DecidableEq
def RelV : V → Value → Prop
  | .non, u => u = Value.none
  | .bl b, u => u = Value.bool b
  | .int i, u => ∃ t, u = Value.int i t
  | .str x, u => ∃ t, u = Value.str x t
  | .byt b, u => ∃ t, u = Value.bytes b t
  | .flt b, u => ∃ t, u = Value.float b t
  | .ref a, u => u = Value.ref a
  | .ty n, u => u = Value.type n
abbrev Vals : List V → List Value → Prop := Paired RelV
theorem Vals.length {xs : List V} {us : List Value} (r : Vals xs us) : xs.length = us.length := Paired.length r
theorem Vals.get : ∀ {xs : List V} {us : List Value} {i : Nat} {x : V}, Vals xs us → xs[i]? = some x → ∃ u, us[i]? = some u ∧ RelV x u
  | _, _, _, _, .nil, e => by simp at e
  | _, _, 0, _, .cons r _, e => by simp at e; subst e; exact ⟨_, rfl, r⟩
  | _, _, i + 1, x, .cons _ t, e => by
    obtain ⟨u, h1, h2⟩ := Vals.get (i := i) (x := x) t (by simpa using e)
    exact ⟨u, by simpa using h1, h2⟩
theorem Vals.set {x : V} {u : Value} (r : RelV x u) : ∀ {xs : List V} {us : List Value} (i : Nat), Vals xs us → Vals (xs.set i x) (us.set i u)
  | _, _, _, .nil => .nil
  | _, _, 0, .cons _ t => .cons r t
  | _, _, i + 1, .cons q t => .cons q (Vals.set r i t)
theorem Vals.append : ∀ {xs ys : List V} {us ws : List Value}, Vals xs us → Vals ys ws → Vals (xs ++ ys) (us ++ ws)
  | _, _, _, _, .nil, s => s
  | _, _, _, _, .cons r t, s => .cons r (Vals.append t s)
theorem Vals.take : ∀ {xs : List V} {us : List Value} (n : Nat), Vals xs us → Vals (xs.take n) (us.take n)
  | _, _, 0, _ => .nil
  | _, _, _ + 1, .nil => .nil
  | _, _, n + 1, .cons r t => .cons r (Vals.take n t)
theorem Vals.drop : ∀ {xs : List V} {us : List Value} (n : Nat), Vals xs us → Vals (xs.drop n) (us.drop n)
  | _, _, 0, r => r
  | _, _, _ + 1, .nil => .nil
  | _, _, n + 1, .cons _ t => Vals.drop n t
def KD : Option V → Option Value → Prop
  | some v, some u => RelV v u
  | none, none => True
  | _, _ => False
def KV {κ : Type} : List (κ × V) → List (κ × Value) → Prop := Paired fun (p : κ × V) (q : κ × Value) => p.1 = q.1 ∧ RelV p.2 q.2
def kV : Key → V
  | .inl i => .int i
  | .inr x => .str x
inductive HO where
  | lst (xs : List V)
  | tup (xs : List V)
  | dK (kvs : List (Key × V)) | dT (kvs : List (List Key × V))
  | set (S : Int → Bool) (n : Nat)
  | ins (C dx : Addr) (fs : List (Str × V))
  | own (x : Addr)
  | xd (fs : List (Str × V))
  | met (f x : Addr)
  | rng (lo hi : Int)
  | frz (o : Obj) (u : HO)
  | tbl (ps : Array Value)
  | ext (φ : Heap → Prop)
abbrev Hp := Addr → Option HO
def upd (H : Hp) (a : Addr) (o : HO) : Hp := fun b => if b = a then some o else H b
theorem Dz {H : Hp} {a : Addr} {o : HO} : upd H a o a = some o := by unfold upd; rw [if_pos rfl]
theorem Bs {H : Hp} {a b : Addr} {o : HO} (h : b ≠ a) : upd H a o b = H b := by unfold upd; rw [if_neg h]
theorem Ey {H : Hp} {a b : Addr} {o : HO} (h : H a = some o) (h' : H b = none) : a ≠ b := by
  intro e; subst e; rw [h] at h'; cases h'
section
variable (P : Program) (w : World)
def Es (H : Hp) (h : Heap) (a : Addr) : HO → Prop
  | .lst xs => xs.length ≤ sizeLine ∧ ∃ (its : List Value) (n : Nat), Vals xs its ∧ h.get? a = some { cls := .type "list", data := .seq its.toArray n }
  | .tup xs => xs.length ≤ sizeLine ∧ ∃ its : List Value, Vals xs its ∧ IsTup h a its.toArray
  | .dK kvs => kvs.length ≤ sizeLine ∧ (a == sysModules) = false ∧ ∃ vs, KV kvs vs ∧ h.DictOf (pH P w) a vs
  | .dT kvs => kvs.length ≤ sizeLine ∧ (a == sysModules) = false ∧ ∃ xs : List (List Key × Addr × Value),
      Paired (fun (p : List Key × V) (q : List Key × Addr × Value) => p.1 = q.1 ∧ H q.2.1 = some (.tup (p.1.map kV)) ∧ RelV p.2 q.2.2) kvs xs ∧
      ∃ o es ep, h.get? a = some o ∧ o.ExactDict ∧ o.data = .dict es ep ∧ es.toList = xs.map (entryOfKey (tupleKind (pH P w))) ∧ (xs.map (·.1)).Nodup
  | .set S n => h.SetOf (intKind P w) a S n
  | .ins C dx fs => H dx = some (.own a) ∧ fs.length ≤ 1000 ∧ dx ≠ a ∧ h.get? a = some (PySem.W.instObj C dx) ∧
      ∃ mA, h.Ns1 dx mA ∧ (∀ f, KD (fs.lookup f) (mA f)) ∧ PySem.Within mA (fs.map (·.1))
  | .own _ => ∃ o, h.get? a = some o
  | .xd fs => ∃ mA, h.Ns1 a mA ∧ ∀ f, KD (fs.lookup f) (mA f)
  | .rng lo hi => ∃ t u v, h.get? a = some { cls := .type "range", data := .fields #[.int lo t, .int hi u, .int 1 v] }
  | .frz o u => h.get? a = some o ∧ Es H h a u
  | .tbl ps => h.get? a = some { cls := .none, data := .fields ps }
  | .met f x => h.get? a = some (PySem.W.methodObj (.ref f) (.ref x))
  | .ext φ => φ h ∧ (∃ o, h.get? a = some o) ∧ ∀ h1 h2 : Heap, φ h1 → (∀ o, h1.get? a = some o → h2.get? a = some o) → φ h2
def Ea (H : Hp) (h : Heap) : Prop := ∀ a o, H a = some o → Es P w H h a o
end
section
variable {P : Program} {w : World} {H H' : Hp} {h h' : Heap} {a : Addr} {o : HO}
theorem Es.lt (x : Es P w H h a o) : a < h.objs.size := by
  cases o with
  | lst xs => obtain ⟨_, _, _, _, e⟩ := x; exact Heap.lt_size e
  | tup xs => obtain ⟨_, _, _, p⟩ := x; exact p.lt
  | dK kvs => obtain ⟨_, _, _, _, o, _, _, e, _⟩ := x; exact Heap.lt_size e
  | dT kvs => obtain ⟨_, _, _, _, o, _, _, e, _⟩ := x; exact Heap.lt_size e
  | set S n => obtain ⟨o, _, _, _, e, _⟩ := x; exact Heap.lt_size e
  | ins C dx fs => obtain ⟨_, _, _, e, _⟩ := x; exact Heap.lt_size e
  | own y => obtain ⟨_, e⟩ := x; exact Heap.lt_size e
  | xd fs => obtain ⟨_, ⟨_, _, _, e, _⟩, _⟩ := x; exact Heap.lt_size e
  | rng lo hi => obtain ⟨_, _, _, e⟩ := x; exact Heap.lt_size e
  | frz ob u => obtain ⟨e, _⟩ := x; exact Heap.lt_size e
  | tbl ps => exact Heap.lt_size (show h.get? a = some _ from x)
  | met f y => exact Heap.lt_size (show h.get? a = some _ from x)
  | ext φ => obtain ⟨_, ⟨_, e⟩, _⟩ := x; exact Heap.lt_size e
theorem Paired.xY {α β : Type} {F G : α → β → Prop} : ∀ {l₁ : List α} {l₂ : List β}, Paired F l₁ l₂ → (∀ a b, F a b → G a b) → Paired G l₁ l₂
  | _, _, .nil, _ => .nil
  | _, _, .cons r t, f => .cons (f _ _ r) (Paired.xY t f)
theorem Es.KZ (x : Es P w H h a o) (k : ∀ b u, (b = a ∨ H b = some (.own a)) → h.get? b = some u → h'.get? b = some u) (ho : ∀ b, H b = some (.own a) → H' b = some (.own a)) (ht : ∀ b xs, H b = some (.tup xs) → H' b = some (.tup xs)) : Es P w H' h' a o := by
  induction o with
  | lst xs => obtain ⟨z, its, n, r, e⟩ := x; exact ⟨z, its, n, r, k _ _ (.inl rfl) e⟩
  | tup xs => obtain ⟨z, its, r, ob, e, c⟩ := x; exact ⟨z, its, r, ob, k _ _ (.inl rfl) e, c⟩
  | dK kvs => obtain ⟨z, y, vs, r, ob, es, ep, e, c⟩ := x; exact ⟨z, y, vs, r, ob, es, ep, k _ _ (.inl rfl) e, c⟩
  | dT kvs =>
    obtain ⟨z, y, xs, r, ob, es, ep, e, c⟩ := x
    exact ⟨z, y, xs, Paired.xY r fun p q z => ⟨z.1, ht _ _ z.2.1, z.2.2⟩, ob, es, ep, k _ _ (.inl rfl) e, c⟩
  | set S n => obtain ⟨ob, es, ep, t, e, c⟩ := x; exact ⟨ob, es, ep, t, k _ _ (.inl rfl) e, c⟩
  | ins C dx fs =>
    obtain ⟨d, z, ne, e, mA, ⟨od, es, ep, e2, c⟩, r⟩ := x
    exact ⟨ho _ d, z, ne, k _ _ (.inl rfl) e, mA, ⟨od, es, ep, k _ _ (.inr d) e2, c⟩, r⟩
  | own y => obtain ⟨ob, e⟩ := x; exact ⟨ob, k _ _ (.inl rfl) e⟩
  | xd fs => obtain ⟨mA, ⟨od, es, ep, e, c⟩, r⟩ := x; exact ⟨mA, ⟨od, es, ep, k _ _ (.inl rfl) e, c⟩, r⟩
  | rng lo hi => obtain ⟨t, u, v, e⟩ := x; exact ⟨t, u, v, k _ _ (.inl rfl) e⟩
  | frz ob u ih => obtain ⟨e, q⟩ := x; exact ⟨k _ _ (.inl rfl) e, ih q⟩
  | tbl ps =>
    have e : h.get? a = some { cls := .none, data := .fields ps } := x
    show h'.get? a = some { cls := .none, data := .fields ps }
    exact k a _ (.inl rfl) e
  | met f y =>
    have e : h.get? a = some (PySem.W.methodObj (.ref f) (.ref y)) := x
    show h'.get? a = some (PySem.W.methodObj (.ref f) (.ref y))
    exact k a _ (.inl rfl) e
  | ext φ => obtain ⟨p, ⟨o, e⟩, st⟩ := x; exact ⟨st _ _ p fun o q => k _ _ (.inl rfl) q, ⟨o, k _ _ (.inl rfl) e⟩, st⟩
theorem Ea.lt (x : Ea P w H h) (e : H a = some o) : a < h.objs.size := (x a o e).lt
theorem Ea.fresh (x : Ea P w H h) (e : h.objs.size ≤ a) : H a = none := by
  cases q : H a with
  | none => rfl
  | some u => exact absurd (Nat.lt_of_lt_of_le (x.lt q) e) (Nat.lt_irrefl _)
theorem Ea.kept (x : Ea P w H h) (k : ∀ b u, h.get? b = some u → h'.get? b = some u) : Ea P w H h' := fun a o e =>
  (x a o e).KZ (fun b u _ q => k b u q) (fun _ q => q) fun _ _ q => q
theorem Ea.laid (x : Ea P w H h) (k : ∀ b u, h.get? b = some u → h'.get? b = some u) (hp : h.objs.size ≤ a) (new : Es P w (upd H a o) h' a o) : Ea P w (upd H a o) h' := fun b u e => by
  have hn := x.fresh hp
  by_cases hb : b = a
  · subst hb; rw [Dz] at e; cases e; exact new
  · rw [Bs hb] at e
    exact (x b u e).KZ (fun c v _ q => k c v q) (fun c q => by rw [Bs (Ey q hn)]; exact q) fun c xs q => by rw [Bs (Ey q hn)]; exact q
end
def Rd (H : Hp) (a : Addr) (u : HO) : Prop := H a = some u ∨ ∃ o, H a = some (.frz o u)
theorem Rd.ok {P : Program} {w : World} {H : Hp} {h : Heap} {a : Addr} {u : HO} (r : Rd H a u) (x : Ea P w H h) : Es P w H h a u := by
  rcases r with r | ⟨o, r⟩
  · exact x a u r
  · obtain ⟨_, q⟩ := x a _ r
    exact q
def W9 : Option HO → Prop
  | some (.lst _) => True
  | some (.dK _) => True
  | some (.dT _) => True
  | some (.set _ _) => True
  | some (.ins _ _ _) => True
  | some (.ext _) => True
  | _ => False
section
variable {P : Program} {w : World} {H : Hp} {h h' : Heap} {x e : Addr} {o' : HO}
theorem Ea.write (ok : Ea P w H h) (mu : W9 (H x)) (he : e = x ∨ H e = some (.own x)) (k : ∀ b u, b ≠ e → h.get? b = some u → h'.get? b = some u) (heo : ∃ u, h'.get? e = some u) (new : Es P w (upd H x o') h' x o') : Ea P w (upd H x o') h' := fun b u q => by
  have nown : ∀ c y, H c = some (.own y) → c ≠ x := fun c y r z => by subst z; rw [r] at mu; exact mu
  have ntup : ∀ c xs, H c = some (.tup xs) → c ≠ x := fun c xs r z => by subst z; rw [r] at mu; exact mu
  by_cases hb : b = x
  · subst hb; rw [Dz] at q; cases q; exact new
  · rw [Bs hb] at q
    by_cases hbe : b = e
    · have q' : H b = some (.own x) := by
        rcases he with z | z
        · exact absurd (hbe.trans z) hb
        · rw [hbe]; exact z
      rw [q] at q'; cases q'
      obtain ⟨v, hv⟩ := heo
      exact ⟨v, by rw [hbe]; exact hv⟩
    · refine (ok b u q).KZ (fun c v hc r => k c v ?_ r) (fun c r => by rw [Bs (nown c b r)]; exact r) fun c xs r => by rw [Bs (ntup c xs r)]; exact r
      rcases hc with rfl | hc
      · exact hbe
      · rintro rfl
        rcases he with z | z
        · exact nown c b hc z
        · rw [hc] at z; cases z; exact hb rfl
end
structure Un (fs ex : List Addr) (H H' : Hp) (h h' : Heap) : Prop where
  keep : ∀ b o, h.get? b = some o → H b = none → b ∉ fs → b ∉ ex → h'.get? b = some o
  slot : ∀ b o, h.get? b = some o → H b = none → b ∈ fs → b ∉ ex → ∃ sl, h'.get? b = some { o with slots := sl }
  free : ∀ b o, h.get? b = some o → H b = none → b ∉ ex → H' b = none
  there : ∀ b o, h.get? b = some o → b ∉ ex → ∃ o', h'.get? b = some o'
  tups : ∀ b xs, H b = some (.tup xs) → H' b = some (.tup xs)
  frzs : ∀ b o u, H b = some (.frz o u) → H' b = some (.frz o u)
  tbls : ∀ b ps, H b = some (.tbl ps) → ∃ more, H' b = some (.tbl (ps ++ more))
section
variable {fs fs' ex ex' : List Addr} {H H1 H2 : Hp} {h h1 h2 h' : Heap} {a x e : Addr} {o : HO}
theorem Un.any (u : Un fs ex H H1 h h1) {b : Addr} {ob : Obj} (q : h.get? b = some ob) (n : H b = none) (hx : b ∉ ex) : ∃ sl, h1.get? b = some { ob with slots := sl } := by
  by_cases hb : b ∈ fs
  · exact u.slot b ob q n hb hx
  · exact ⟨ob.slots, u.keep b ob q n hb hx⟩
theorem Un.kept (k : ∀ b u, h.get? b = some u → h'.get? b = some u) : Un fs ex H H h h' :=
  ⟨fun b ob q _ _ _ => k b ob q, fun b ob q _ _ _ => ⟨ob.slots, k b ob q⟩, fun _ _ _ n _ => n, fun b ob q _ => ⟨ob, k b ob q⟩, fun _ _ q => q, fun _ _ _ q => q, fun _ ps q => ⟨#[], by rw [q]; simp⟩⟩
theorem Un.refl : Un fs ex H H h h := Un.kept fun _ _ q => q
theorem Un.laid (k : ∀ b u, h.get? b = some u → h'.get? b = some u) (hp : h.objs.size ≤ a) (hn : H a = none) : Un fs ex H (upd H a o) h h' where
  keep := fun b u q _ _ _ => k b u q
  slot := fun b u q _ _ _ => ⟨u.slots, k b u q⟩
  free := fun b u q n _ => by rw [Bs (Nat.ne_of_lt (Nat.lt_of_lt_of_le (Heap.lt_size q) hp))]; exact n
  there := fun b u q _ => ⟨u, k b u q⟩
  tups := fun b xs q => by rw [Bs (Ey q hn)]; exact q
  frzs := fun b u xs q => by rw [Bs (Ey q hn)]; exact q
  tbls := fun b ps q => ⟨#[], by rw [Bs (Ey q hn), q]; simp⟩
theorem Un.write (mu : W9 (H x)) (he : e = x ∨ H e = some (.own x)) (k : ∀ b u, b ≠ e → h.get? b = some u → h'.get? b = some u) (heo : ∃ u, h'.get? e = some u) : Un fs ex H (upd H x o) h h' := by
  have hx : ∀ b, H b = none → b ≠ x := fun b n z => by subst z; rw [n] at mu; exact mu
  have hb : ∀ b, H b = none → b ≠ e := fun b n z => by
    subst z
    rcases he with r | r
    · exact hx b n r
    · rw [n] at r; cases r
  have hm : ∀ b u, H b = some u → ¬ W9 (some u) → b ≠ x := fun b u q nm z => by subst z; rw [q] at mu; exact nm mu
  refine ⟨fun b u q n _ _ => k b u (hb b n) q, fun b u q n _ _ => ⟨u.slots, k b u (hb b n) q⟩, fun b u q n _ => by rw [Bs (hx b n)]; exact n, fun b u q _ => ?_,
    fun b xs q => by rw [Bs (hm b _ q fun z => z)]; exact q, fun b u xs q => by rw [Bs (hm b _ q fun z => z)]; exact q, fun b ps q => ⟨#[], by rw [Bs (hm b _ q fun z => z), q]; simp⟩⟩
  by_cases hbe : b = e
  · subst hbe; exact heo
  · exact ⟨u, k b u hbe q⟩
end
def Wz (h : Heap) (H : Hp) : List Addr := (List.range h.objs.size).filter fun a => (H a).isSome
def Ly (h : Heap) (H : Hp) : Heap := PySem.W.hideAll h (Wz h H)
theorem AEd (h : Heap) (H : Hp) : (Ly h H).objs.size = h.objs.size := PySem.W.hideAll_size _ _
theorem AEm {h : Heap} {H : Hp} {b : Addr} {o : Obj} (e : h.get? b = some o) (n : H b = none) : (Ly h H).get? b = some o :=
  PySem.W.hideAll_get _ e fun hm => by
    have q : (H b).isSome = true := (List.mem_filter.mp hm).2
    rw [n] at q; simp at q
theorem AG7 {h : Heap} {H : Hp} {b : Addr} {o : Obj} (e : (Ly h H).get? b = some o) : h.get? b = some o ∧ H b = none := by
  have e' : h.get? b = some o := PySem.W.of_hideAll (Wz h H) e
  refine ⟨e', ?_⟩
  cases q : H b with
  | none => rfl
  | some x =>
    have hm : b ∈ Wz h H := List.mem_filter.mpr ⟨List.mem_range.mpr (Heap.lt_size e'), by simp [q]⟩
    have z : (Ly h H).get? b = none := PySem.W.hideAll_none (Wz h H) hm
    rw [z] at e; cases e
def AHf (g h : Heap) (L : Addr) : List (Addr × Obj) := (List.range h.objs.size).filterMap fun a => if a = L ∨ (g.get? a).isSome = true then none else (h.get? a).map fun o => (a, o)
def rest (g h : Heap) (L d : Addr) : List (Addr × Obj) := (AHf g h L).filter fun p => decide (p.1 ≠ d)
end L2
namespace L2
open PySem PySem.Spec PyProof.Rows
structure Mod (K : Frag) (mg : Str → Option Value) (base : Heap) : Prop where
  kin : K.In base
  glob : base.Ns mainGlobals mg
  blt : ∃ mb, base.Ns builtinsNs mb ∧ ∀ x : Str, x ≠ "__name__" → mb x = bootBuiltins x
  nolimit : base.NoLimit
structure Cx where
  prog : Program
  w : World
  K : Frag
  mg : Str → Option Value
  base : Heap
  A : Around
  N : List Str
  s₀ : Shared
  H₀ : Hp
  env : Env
  outer : List Env
  stack : List Env
  ex : List Addr
  fn : Str → Bool
  calm : Bool
  pn : List (Addr × Obj)
  xe : Value → Shared → Prop
def DG (l : List Env) : List Addr := l.filterMap (·.frame)
abbrev Cx.fs (X : Cx) : List Addr := DG X.outer
def Ig (sc : Scope) (x : Str) : Prop := sc.names.lookup x = some .local ∨ sc.names.lookup x = some .cell ∨ sc.names.lookup x = some .free
def Loc (sc : Scope) (x : Str) : Prop := sc.names.lookup x = some .local ∨ sc.names.lookup x = some .cell
def Look (env : Env) (h : Heap) (m : Str → Option Value) (x : Str) (u : Value) : Prop :=
  (env.kindOf x = some .local ∧ m x = some u) ∨ ((env.kindOf x = some .cell ∨ env.kindOf x = some .free) ∧ ∃ c, env.cells.lookup x = some c ∧ h.IsCell c (some u))
structure Cx.Ok (X : Cx) : Prop where
  mod : Mod X.K X.mg X.base
  kind : X.env.scope.kind = .function
  glob : X.env.globals = mainGlobals
  blt : X.env.builtins = builtinsNs
  above : X.s₀.heap.objs.size ≤ X.env.locals
  inj : ∀ x y c, X.env.cells.lookup x = some c → X.env.cells.lookup y = some c → x = y
  has : ∀ x, (X.env.kindOf x = some .cell ∨ X.env.kindOf x = some .free) → ∃ c, X.env.cells.lookup x = some c
  cab : ∀ x c, X.fn x = true → X.env.cells.lookup x = some c → X.s₀.heap.objs.size ≤ c
  hd : X.calm = true → X.A.handled = none
  frames : X.A.frames = some X.stack
  stk : X.stack = X.outer ∨ (X.stack = X.env :: X.outer ∧ X.env.frame = some X.env.locals)
  exf : ∀ b ∈ X.ex, b ≠ X.env.locals ∧ ∀ x c, X.env.cells.lookup x = some c → c ≠ b
  bs : ∀ b o, X.base.get? b = some o → X.s₀.heap.get? b = some o ∧ X.H₀ b = none
  bsz : X.base.objs.size ≤ X.s₀.heap.objs.size
  noex : ∀ b o, X.base.get? b = some o → b ∉ X.ex
  exfs : ∀ b ∈ X.ex, b ∉ X.fs
  Hn : X.s₀.heap.FunFrames X.base X.outer
  frf : ∀ b ∈ X.fs, X.H₀ b = none
structure Inv (X : Cx) (pins : List (Addr × Obj)) (σ : List (Option V)) (H : Hp) (s : Shared) : Prop where
  ok : X.Ok
  os : s.os = X.s₀.os
  bare : AllBare s.gens
  base : Un X.fs X.ex X.H₀ H X.s₀.heap s.heap
  loc : ∃ m, s.heap.Ns X.env.locals m ∧ ∀ (i : Nat) (x : Str) (v : V), X.N[i]? = some x → σ[i]? = some (some v) → Ig X.env.scope x → ∃ u, RelV v u ∧ Look X.env s.heap m x u
  cell : ∀ x c, X.env.cells.lookup x = some c → ∃ v, s.heap.IsCell c v
  free : H X.env.locals = none
  freeC : ∀ x c, X.env.cells.lookup x = some c → H c = none
  pin : ∀ p ∈ X.pn ++ pins, s.heap.get? p.1 = some p.2 ∧ H p.1 = none ∧ p.1 ≠ X.env.locals ∧ p.1 ∉ X.fs ∧ ∀ v, p.2.data ≠ .cell v
  hok : Ea X.prog X.w H s.heap
  len : σ.length = X.N.length
section
variable {X : Cx} {pins : List (Addr × Obj)} {σ : List (Option V)} {H H' : Hp} {s : Shared} {h' : Heap}
theorem Cx.Ok.zX (ok : X.Ok) {b : Addr} {o : Obj} (e : X.base.get? b = some o) : b ∉ X.fs := fun hb => by
  have := (ok.Hn.mem hb).1
  rw [e] at this; cases this
theorem Inv.bs (I : Inv X pins σ H s) : ∀ b o, X.base.get? b = some o → s.heap.get? b = some o ∧ H b = none := fun b o e =>
  ⟨I.base.keep b o (I.ok.bs b o e).1 (I.ok.bs b o e).2 (I.ok.zX e) (I.ok.noex b o e), I.base.free b o (I.ok.bs b o e).1 (I.ok.bs b o e).2 (I.ok.noex b o e)⟩
theorem Inv.bk (I : Inv X pins σ H s) : ∀ b o, X.base.get? b = some o → s.heap.get? b = some o := fun b o e => (I.bs b o e).1
theorem Inv.mod (I : Inv X pins σ H s) : Mod X.K X.mg X.base := I.ok.mod
theorem Inv.DP (I : Inv X pins σ H s) : X.K.In s.heap := I.ok.mod.kin.keeps I.bk
theorem Inv.lt (I : Inv X pins σ H s) : X.env.locals < s.heap.objs.size := let ⟨_, hn, _⟩ := I.loc; hn.lt
theorem Inv.sz (I : Inv X pins σ H s) : X.s₀.heap.objs.size ≤ s.heap.objs.size := Nat.le_trans I.ok.above (Nat.le_of_lt I.lt)
theorem Inv.xV (I : Inv X pins σ H s) {a : Addr} (h : s.heap.objs.size ≤ a) : a ∉ X.fs := fun hb => by
  obtain ⟨_, o, ho, _⟩ := I.ok.Hn.mem hb
  exact absurd (Nat.lt_of_lt_of_le (Heap.lt_size ho) (Nat.le_trans I.sz h)) (Nat.lt_irrefl _)
theorem Inv.J9 (I : Inv X pins σ H s) : ∀ x c, X.env.cells.lookup x = some c → c ≠ X.env.locals := fun x c e z => by
  obtain ⟨v, o, ho, hd⟩ := I.cell x c e
  obtain ⟨m, ⟨o', es, ep, ho', hd', _⟩, _⟩ := I.loc
  rw [z, ho'] at ho; cases ho; rw [hd'] at hd; cases hd
theorem Inv.Hn (I : Inv X pins σ H s) : s.heap.FunFrames X.base X.outer := by
  have all : ∀ (l : List Env), (∀ b ∈ DG l, b ∈ X.fs) → X.s₀.heap.FunFrames X.base l → s.heap.FunFrames X.base l := by
    intro l
    induction l with
    | nil => intro _ _; trivial
    | cons env r ih =>
      intro hs hl
      obtain ⟨hk, ⟨L, o, hf, hn, ho, hd⟩, hr⟩ := hl
      have hL : L ∈ X.fs := hs L (by unfold DG; rw [List.filterMap_cons, hf]; exact CW)
      obtain ⟨sl, e⟩ := I.base.slot L o ho (I.ok.frf L hL) hL fun z => I.ok.exfs L z hL
      exact ⟨hk, ⟨L, _, hf, hn, e, hd⟩, ih (fun b hb => hs b (by unfold DG; rw [List.filterMap_cons, hf]; exact BZ hb)) hr⟩
  exact all X.outer (fun _ hb => hb) I.ok.Hn
theorem Inv.stack (I : Inv X pins σ H s) : s.heap.FunFrames X.base X.stack := by
  rcases I.ok.stk with e | ⟨e, hf⟩
  · rw [e]; exact I.Hn
  · rw [e]
    obtain ⟨m, hn, _⟩ := I.loc
    refine .cons (by rw [I.ok.kind]; decide) hf hn ?_ I.Hn
    exact Heap.get?_none_of_le (Nat.le_trans I.ok.bsz I.ok.above)
theorem Inv.Xo (I : Inv X pins σ H s) : ∀ b ∈ DG X.stack, b ∈ X.env.locals :: X.fs := fun b hb => by
  rcases I.ok.stk with e | ⟨e, hf⟩
  · rw [e] at hb; exact BZ hb
  · rw [e] at hb
    unfold DG at hb
    rw [List.filterMap_cons, hf] at hb
    exact hb
theorem Inv.Zd (I : Inv X pins σ H s) : ∀ b ∈ DG X.stack, H b = none := fun b hb => by
  rcases List.mem_cons.mp (I.Xo b hb) with e | hb
  · rw [e]; exact I.free
  · obtain ⟨_, o, ho, _⟩ := I.ok.Hn.mem hb
    exact I.base.free b o ho (I.ok.frf b hb) fun z => I.ok.exfs b z hb
theorem Inv.step {g' : Array GenState} {t' : Nat} {d' : Drawn} {ch : List Addr} (I : Inv X pins σ H s) (hch : ∀ b ∈ ch, (b ∈ X.ex ∨ X.s₀.heap.objs.size ≤ b) ∧ b ≠ X.env.locals ∧ (∀ x c, X.env.cells.lookup x = some c → c ≠ b) ∧ ∀ p ∈ X.pn ++ pins, p.1 ≠ b) (keep : ∀ b o, b ≠ X.env.locals → b ∉ X.fs → b ∉ ch → s.heap.get? b = some o → H b = none → h'.get? b = some o) (slot : ∀ b o, b ≠ X.env.locals → b ∈ X.fs → b ∉ ch → s.heap.get? b = some o → H b = none → ∃ sl, h'.get? b = some { o with slots := sl }) (free : ∀ b o, b ∉ ch → s.heap.get? b = some o → H b = none → H' b = none) (there : ∀ b o, b ∉ ch → s.heap.get? b = some o → ∃ o', h'.get? b = some o') (tups : ∀ b xs, H b = some (.tup xs) → H' b = some (.tup xs)) (frzs : ∀ b o u, H b = some (.frz o u) → H' b = some (.frz o u)) (tbls : ∀ b ps, H b = some (.tbl ps) → ∃ more, H' b = some (.tbl (ps ++ more))) (ns : ∀ m, s.heap.Ns X.env.locals m → h'.Ns X.env.locals m) (hok : Ea X.prog X.w H' h') (hg : AllBare g') :
    Inv X pins σ H' { s with heap := h', gens := g', drawn := d', toks := t' } := by
  have neL : ∀ b o, X.s₀.heap.get? b = some o → b ≠ X.env.locals := fun b o e => Nat.ne_of_lt (Nat.lt_of_lt_of_le (Heap.lt_size e) I.ok.above)
  have neC : ∀ b o, X.s₀.heap.get? b = some o → b ∉ X.ex → b ∉ ch := fun b o e hx hb => by
    rcases (hch b hb).1 with z | z
    · exact hx z
    · exact absurd (Nat.lt_of_lt_of_le (Heap.lt_size e) z) (Nat.lt_irrefl _)
  have cellK : ∀ x c, X.env.cells.lookup x = some c → ∀ v, s.heap.IsCell c v → h'.IsCell c v := fun x c e v ⟨o, ho, hd⟩ => by
    have nch : c ∉ ch := fun z => (hch c z).2.2.1 x c e rfl
    by_cases hc : c ∈ X.fs
    · obtain ⟨sl, q⟩ := slot c o (I.J9 x c e) hc nch ho (I.freeC x c e)
      exact ⟨_, q, hd⟩
    · exact ⟨o, keep c o (I.J9 x c e) hc nch ho (I.freeC x c e), hd⟩
  refine ⟨I.ok, I.os, hg, ⟨fun b o e n hb hx => ?_, fun b o e n hb hx => ?_, fun b o e n hx => ?_, fun b o e hx => ?_, fun b xs e => tups b xs (I.base.tups b xs e), fun b o xs e => frzs b o xs (I.base.frzs b o xs e), fun b ps e => ?_⟩, ?_, fun x c e => ?_, ?_, fun x c e => ?_, fun p hp => ?_, hok, I.len⟩
  · exact keep b o (neL b o e) hb (neC b o e hx) (I.base.keep b o e n hb hx) (I.base.free b o e n hx)
  · obtain ⟨sl, e1⟩ := I.base.slot b o e n hb hx
    obtain ⟨sl', e2⟩ := slot b _ (neL b o e) hb (neC b o e hx) e1 (I.base.free b o e n hx)
    exact ⟨sl', e2⟩
  · obtain ⟨o', e1⟩ := I.base.there b o e hx
    exact free b o' (neC b o e hx) e1 (I.base.free b o e n hx)
  · obtain ⟨o', e1⟩ := I.base.there b o e hx
    exact there b o' (neC b o e hx) e1
  · obtain ⟨m1, e1⟩ := I.base.tbls b ps e
    obtain ⟨m2, e2⟩ := tbls b _ e1
    exact ⟨m1 ++ m2, by rw [e2, Array.append_assoc]⟩
  · obtain ⟨m, hn, hl⟩ := I.loc
    refine ⟨m, ns m hn, fun i x v e1 e2 e3 => ?_⟩
    obtain ⟨u, r, l⟩ := hl i x v e1 e2 e3
    refine ⟨u, r, ?_⟩
    rcases l with l | ⟨k, c, e, z⟩
    · exact .inl l
    · exact .inr ⟨k, c, e, cellK x c e _ z⟩
  · obtain ⟨v, z⟩ := I.cell x c e
    exact ⟨v, cellK x c e v z⟩
  · obtain ⟨m, ⟨o, _, _, ho, _⟩, _⟩ := I.loc
    exact free _ o (fun z => (hch _ z).2.1 rfl) ho I.free
  · obtain ⟨v, o, ho, hd⟩ := I.cell x c e
    exact free c o (fun z => (hch c z).2.2.1 x c e rfl) ho (I.freeC x c e)
  · obtain ⟨e, n, ne, nf, d⟩ := I.pin p hp
    have nch : p.1 ∉ ch := fun z => (hch p.1 z).2.2.2 p hp rfl
    exact ⟨keep p.1 p.2 ne nf nch e n, free p.1 p.2 nch e n, ne, nf, d⟩
theorem Inv.un {t' : Nat} (I : Inv X pins σ H s) (u : Un X.fs [] H H' s.heap h') (hok : Ea X.prog X.w H' h') : Inv X pins σ H' { s with heap := h', toks := t' } := by
  obtain ⟨m, ⟨o, es, ep, ho, r⟩, _⟩ := id I.loc
  obtain ⟨sl, hL⟩ := u.any ho I.free (by simp)
  exact I.step (g' := s.gens) (d' := s.drawn) (ch := []) (fun _ z => nomatch z) (fun b o _ hb _ e n => u.keep b o e n hb (by simp)) (fun b o _ hb _ e n => u.slot b o e n hb (by simp)) (fun b o _ e n => u.free b o e n (by simp)) (fun b o _ e => u.there b o e (by simp)) u.tups u.frzs u.tbls (fun m' hm => by
    obtain ⟨o', es', ep', ho', r'⟩ := hm
    rw [ho] at ho'; cases ho'
    exact ⟨_, es', ep', hL, r'⟩) hok I.bare
theorem Inv.call {g' : Array GenState} {t' : Nat} {d' : Drawn} {ch : List Addr} (I : Inv X pins σ H s) (u : Un (DG X.stack) ch H H' s.heap h') (hok : Ea X.prog X.w H' h') (hg : AllBare g') (hch : ∀ b ∈ ch, (b ∈ X.ex ∨ X.s₀.heap.objs.size ≤ b) ∧ b ≠ X.env.locals ∧ (∀ x c, X.env.cells.lookup x = some c → c ≠ b) ∧ ∀ p ∈ X.pn ++ pins, p.1 ≠ b) :
    Inv X pins σ H' { s with heap := h', gens := g', drawn := d', toks := t' } := by
  obtain ⟨m, ⟨o, es, ep, ho, r⟩, _⟩ := id I.loc
  obtain ⟨sl, hL⟩ := u.any ho I.free fun z => (hch _ z).2.1 rfl
  exact I.step (ch := ch) hch (fun b o hL hb hc e n => u.keep b o e n (fun z => (List.mem_cons.mp (I.Xo b z)).elim hL hb) hc) (fun b o _ _ hc e n => u.any e n hc) (fun b o hc e n => u.free b o e n hc) (fun b o hc e => u.there b o e hc) u.tups u.frzs u.tbls (fun m' hm => by
    obtain ⟨o', es', ep', ho', r'⟩ := hm
    rw [ho] at ho'; cases ho'
    exact ⟨_, es', ep', hL, r'⟩) hok hg
theorem Inv.turned {t' : Nat} {it : Addr} (I : Inv X pins σ H s) (k : ∀ b o, b ≠ it → s.heap.get? b = some o → h'.get? b = some o) (hn : H it = none) (hL : it ≠ X.env.locals) (h1 : it ∈ X.ex ∨ X.s₀.heap.objs.size ≤ it) (h2 : ∀ x c, X.env.cells.lookup x = some c → c ≠ it) (h3 : ∀ p ∈ X.pn ++ pins, p.1 ≠ it) : Inv X pins σ H { s with heap := h', toks := t' } := by
  have nit : ∀ b u, H b = some u → b ≠ it := fun b u e z => by rw [z, hn] at e; cases e
  refine I.step (g' := s.gens) (d' := s.drawn) (ch := [it]) (fun b hb => ?_) (fun b o _ _ hc e _ => k b o (fun z => hc (by simp [z])) e) (fun b o _ _ hc e _ => ⟨o.slots, k b o (fun z => hc (by simp [z])) e⟩) (fun _ _ _ _ n => n)
    (fun b o hc e => ⟨o, k b o (fun z => hc (by simp [z])) e⟩) (fun _ _ e => e) (fun _ _ _ e => e) (fun b ps e => ⟨#[], by rw [e]; simp⟩) (fun m hm => ?_) (fun b u e => ?_) I.bare
  · have e : b = it := by simpa using hb
    subst e
    exact ⟨h1, hL, h2, h3⟩
  · obtain ⟨o, es, ep, ho, r⟩ := hm
    exact ⟨o, es, ep, k _ o (Ne.symm hL) ho, r⟩
  · refine (I.hok b u e).KZ (fun c v hc q => k c v ?_ q) (fun _ q => q) fun _ _ q => q
    rcases hc with z | z
    · rw [z]; exact nit b u e
    · exact nit c _ z
theorem Inv.tok (I : Inv X pins σ H s) (t : Nat) : Inv X pins σ H { s with toks := t } := I.un (h' := s.heap) (t' := t) Un.refl I.hok
theorem Inv.kept {t' : Nat} (I : Inv X pins σ H s) (k : ∀ b u, s.heap.get? b = some u → h'.get? b = some u) : Inv X pins σ H { s with heap := h', toks := t' } := I.un (Un.kept k) (I.hok.kept k)
theorem Inv.laid {a : Addr} {o : HO} {t' : Nat} (I : Inv X pins σ H s) (k : ∀ b u, s.heap.get? b = some u → h'.get? b = some u) (hp : s.heap.objs.size ≤ a) (new : Es X.prog X.w (upd H a o) h' a o) :
    Inv X pins σ (upd H a o) { s with heap := h', toks := t' } := I.un (Un.laid k hp (I.hok.fresh hp)) (I.hok.laid k hp new)
theorem Inv.write {x e : Addr} {o : HO} {t' : Nat} (I : Inv X pins σ H s) (mu : W9 (H x)) (he : e = x ∨ H e = some (.own x)) (k : ∀ b u, b ≠ e → s.heap.get? b = some u → h'.get? b = some u) (heo : ∃ u, h'.get? e = some u) (new : Es X.prog X.w (upd H x o) h' x o) : Inv X pins σ (upd H x o) { s with heap := h', toks := t' } := I.un (Un.write mu he k heo) (I.hok.write mu he k heo new)
theorem Inv.weak {σ' : List (Option V)} (I : Inv X pins σ H s) (hl : σ'.length = σ.length) (w : ∀ (i : Nat) v, σ'[i]? = some (some v) → σ[i]? = some (some v)) : Inv X pins σ' H s :=
  ⟨I.ok, I.os, I.bare, I.base, let ⟨m, hn, hl'⟩ := I.loc; ⟨m, hn, fun i x v e1 e2 e3 => hl' i x v e1 (w i v e2) e3⟩, I.cell, I.free, I.freeC, I.pin, I.hok, hl.trans I.len⟩
theorem Inv.fY {pins' : List (Addr × Obj)} (I : Inv X pins σ H s) (h : ∀ p ∈ pins', s.heap.get? p.1 = some p.2 ∧ H p.1 = none ∧ p.1 ≠ X.env.locals ∧ p.1 ∉ X.fs ∧ ∀ v, p.2.data ≠ .cell v) : Inv X pins' σ H s :=
  ⟨I.ok, I.os, I.bare, I.base, I.loc, I.cell, I.free, I.freeC, fun p hp => (List.mem_append.mp hp).elim (fun z => I.pin p (Dn z)) (h p), I.hok, I.len⟩
theorem gB {N : List Str} (hN : N.Nodup) {i j : Nat} {x : Str} (a : N[i]? = some x) (b : N[j]? = some x) : i = j := by
  obtain ⟨h1, e1⟩ := List.getElem?_eq_some_iff.mp a
  obtain ⟨h2, e2⟩ := List.getElem?_eq_some_iff.mp b
  exact (List.getElem_inj hN).mp (e1.trans e2.symm)
theorem AH6 {M : Model} {A : Around} {E : Value → Shared → Prop} {i : Nat} {x : Str} {v : V} {u : Value} {Q : Unit → Shared → Prop} (I : Inv X pins σ H s) (hN : X.N.Nodup) (hi : X.N[i]? = some x) (hx : Loc X.env.scope x) (r : RelV v u) (h : ∀ s', Inv X pins (σ.set i (some v)) H s' → (∃ a, Heap.SameBut a s.heap s'.heap ∧ (a = X.env.locals ∨ X.env.cells.lookup x = some a)) → Q () s') (hf : X.fn x = true ∨ X.env.scope.names.lookup x = some .local := by first | exact .inl rfl | exact .inr rfl | assumption) : wpAny M A (storeName X.env x u) Q E s := by
  obtain ⟨m, hn, hl⟩ := id I.loc
  have hcls : (X.env.scope.kind == .class || (X.env.scope.kind == .module && X.env.locals != X.env.globals)) = false := by rw [I.ok.kind]; rfl
  have hiσ : i < σ.length := by rw [I.len]; exact (List.getElem?_eq_some_iff.mp hi).1
  have J9 := I.J9
  have tracked : ∀ {a : Addr} {h' : Heap}, (∃ o, s.heap.get? a = some o ∧ H a = none) → Heap.SameBut a s.heap h' → Ea X.prog X.w H h' := fun {a h'} ha hs b ob e => by
    obtain ⟨_, _, hfree⟩ := ha
    refine (I.hok b ob e).KZ (fun c w' hc q => (hs.2 c ?_).trans q) (fun _ q => q) fun _ _ q => q
    rintro rfl
    rcases hc with rfl | hc
    · rw [hfree] at e; cases e
    · rw [hfree] at hc; cases hc
  rcases hx with hk | hk
  · refine wpAny_storeName_local hk hn (fun h' hn' hs => ?_) hcls
    obtain ⟨oL, _, _, hoL, _⟩ := id hn
    refine h _ ⟨I.ok, I.os, I.bare, ⟨fun b o e n hb hx => ?_, fun b o e n hb hx => ?_, I.base.free, fun b o e hx => ?_, I.base.tups, I.base.frzs, I.base.tbls⟩, ⟨_, hn', fun j y v' e1 e2 e3 => ?_⟩, fun y c e => ?_, I.free, I.freeC, fun p hp => ?_, tracked ⟨oL, hoL, I.free⟩ hs, by simpa using I.len⟩ ⟨_, hs, .inl rfl⟩
    · exact (hs.2 b (Nat.ne_of_lt (Nat.lt_of_lt_of_le (Heap.lt_size e) I.ok.above))).trans (I.base.keep b o e n hb hx)
    · obtain ⟨sl, e1⟩ := I.base.slot b o e n hb hx
      exact ⟨sl, (hs.2 b (Nat.ne_of_lt (Nat.lt_of_lt_of_le (Heap.lt_size e) I.ok.above))).trans e1⟩
    · obtain ⟨o', e1⟩ := I.base.there b o e hx
      exact ⟨o', (hs.2 b (Nat.ne_of_lt (Nat.lt_of_lt_of_le (Heap.lt_size e) I.ok.above))).trans e1⟩
    · by_cases hj : j = i
      · subst hj
        rw [hi] at e1; cases e1
        rw [List.getElem?_set_self hiσ] at e2
        cases e2
        exact ⟨u, r, .inl ⟨hk, by simp⟩⟩
      · rw [List.getElem?_set_ne (Ne.symm hj)] at e2
        obtain ⟨u', r', q⟩ := hl j y v' e1 e2 e3
        refine ⟨u', r', ?_⟩
        rcases q with ⟨k, e⟩ | ⟨k, c, e, z⟩
        · refine .inl ⟨k, ?_⟩
          have : y ≠ x := fun e => hj (gB hN e1 (e ▸ hi))
          simp [this, e]
        · exact .inr ⟨k, c, e, z.sameBut hs (J9 y c e)⟩
    · obtain ⟨w', z⟩ := I.cell y c e
      exact ⟨w', z.sameBut hs (J9 y c e)⟩
    · obtain ⟨e, n, ne, nf, d⟩ := I.pin p hp
      exact ⟨(hs.2 p.1 ne).trans e, n, ne, nf, d⟩
  · have hfn : X.fn x = true := by
      rcases hf with z | z
      · exact z
      · rw [z] at hk; cases hk
    obtain ⟨c, hc⟩ := I.ok.has x (.inl hk)
    obtain ⟨w', z⟩ := I.cell x c hc
    refine wpAny_storeName_cell I.ok.kind hk hc z (fun h' hc' hs => ?_)
    obtain ⟨oc, hoc, hocd⟩ := id z
    refine h { s with heap := h' } ⟨I.ok, I.os, I.bare, ⟨fun b o e n hb hx => ?_, fun b o e n hb hx => ?_, I.base.free, fun b o e hx => ?_, I.base.tups, I.base.frzs, I.base.tbls⟩, ⟨m, hn.sameBut hs (Ne.symm (J9 x c hc)), fun j y v' e1 e2 e3 => ?_⟩, fun y c' e => ?_, I.free, I.freeC, fun p hp => ?_, tracked ⟨oc, hoc, I.freeC x c hc⟩ hs, by simpa using I.len⟩ ⟨c, hs, .inr hc⟩
    · exact (hs.2 b (Nat.ne_of_lt (Nat.lt_of_lt_of_le (Heap.lt_size e) (I.ok.cab x c hfn hc)))).trans (I.base.keep b o e n hb hx)
    · obtain ⟨sl, e1⟩ := I.base.slot b o e n hb hx
      exact ⟨sl, (hs.2 b (Nat.ne_of_lt (Nat.lt_of_lt_of_le (Heap.lt_size e) (I.ok.cab x c hfn hc)))).trans e1⟩
    · obtain ⟨o', e1⟩ := I.base.there b o e hx
      exact ⟨o', (hs.2 b (Nat.ne_of_lt (Nat.lt_of_lt_of_le (Heap.lt_size e) (I.ok.cab x c hfn hc)))).trans e1⟩
    · by_cases hj : j = i
      · subst hj
        rw [hi] at e1; cases e1
        rw [List.getElem?_set_self hiσ] at e2
        cases e2
        exact ⟨u, r, .inr ⟨.inl hk, c, hc, hc'⟩⟩
      · rw [List.getElem?_set_ne (Ne.symm hj)] at e2
        obtain ⟨u', r', q⟩ := hl j y v' e1 e2 e3
        refine ⟨u', r', ?_⟩
        rcases q with q | ⟨k, c', e, z'⟩
        · exact .inl q
        · refine .inr ⟨k, c', e, z'.sameBut hs ?_⟩
          rintro rfl
          exact hj (gB hN e1 (I.ok.inj _ _ _ e hc ▸ hi))
    · by_cases hcc : c' = c
      · subst hcc; exact ⟨_, hc'⟩
      · obtain ⟨w2, z2⟩ := I.cell y c' e
        exact ⟨w2, z2.sameBut hs hcc⟩
    · obtain ⟨e, n, ne, nf, d⟩ := I.pin p hp
      refine ⟨(hs.2 p.1 ?_).trans e, n, ne, nf, d⟩
      intro q
      rw [q, hoc] at e
      have q' : oc = p.2 := Option.some.inj e
      exact d w' (by rw [← q']; exact hocd)
theorem bB {M : Model} {A : Around} {E : Value → Shared → Prop} {i : Nat} {x : Str} {v : V} {u : Value} {Q : Unit → Shared → Prop} (I : Inv X pins σ H s) (hN : X.N.Nodup) (hi : X.N[i]? = some x) (hx : Loc X.env.scope x) (r : RelV v u) (h : ∀ s', Inv X pins (σ.set i (some v)) H s' → Q () s') (hf : X.fn x = true ∨ X.env.scope.names.lookup x = some .local := by first | exact .inl rfl | exact .inr rfl | assumption) : wpAny M A (storeName X.env x u) Q E s :=
  AH6 I hN hi hx r (fun s' I' _ => h s' I') hf
theorem Inv.nJ {s' : Shared} {ch : List Addr} (I : Inv X pins σ H s) (ho : s'.os = s.os) (u : Un (DG X.stack) ch H H' s.heap s'.heap) (hok : Ea X.prog X.w H' s'.heap) (hg : AllBare s'.gens) (hch : ∀ b ∈ ch, (b ∈ X.ex ∨ X.s₀.heap.objs.size ≤ b) ∧ b ≠ X.env.locals ∧ (∀ x c, X.env.cells.lookup x = some c → c ≠ b) ∧ ∀ p ∈ X.pn ++ pins, p.1 ≠ b) : Inv X pins σ H' s' := by
  obtain ⟨h', g', d', t', o'⟩ := s'
  have e : o' = s.os := ho
  subst e
  exact I.call (g' := g') (t' := t') (d' := d') u hok hg hch
end
abbrev XK := Value → Option Addr → Hp → Prop
abbrev St := List (Option V)
abbrev VK := V → Hp → Prop
abbrev TE := St → Hp → VK → Prop
abbrev TT := St → Hp → (Bool → Hp → Prop) → Prop
abbrev TA := St → Hp → (List V → Hp → Prop) → Prop
structure Ends where
  nx : St → Hp → Prop
  rt : VK
  bk : St → Hp → Prop := fun _ _ => False
  ct : St → Hp → Prop := fun _ _ => False
abbrev TS := Ends → St → Hp → Prop
def EP (X : Cx) (pins : List (Addr × Obj)) (σ : St) (Q : VK) (u : Value) (s' : Shared) : Prop := ∃ v H', Inv X pins σ H' s' ∧ RelV v u ∧ Q v H'
def TP (X : Cx) (pins : List (Addr × Obj)) (σ : St) (Q : Bool → Hp → Prop) (b : Bool) (s' : Shared) : Prop := ∃ H', Inv X pins σ H' s' ∧ Q b H'
def AP (X : Cx) (pins : List (Addr × Obj)) (σ : St) (Q : List V → Hp → Prop) (us : List Value) (s' : Shared) : Prop := ∃ vs H', Inv X pins σ H' s' ∧ Vals vs us ∧ Q vs H'
def SP (X : Cx) (pins : List (Addr × Obj)) (D : Ends) (f : Flow) (s' : Shared) : Prop :=
  match f with
  | .next => ∃ σ' H', Inv X pins σ' H' s' ∧ D.nx σ' H'
  | .brk => ∃ σ' H', Inv X pins σ' H' s' ∧ D.bk σ' H'
  | .cont => ∃ σ' H', Inv X pins σ' H' s' ∧ D.ct σ' H'
  | .ret u => ∃ v σ' H', Inv X pins σ' H' s' ∧ RelV v u ∧ D.rt v H'
def PE (X : Cx) (e : Expr) (t : TE) : Prop :=
  ∀ (pins : List (Addr × Obj)) (s : Shared) (σ : St) (H : Hp) (Q : VK), Inv X pins σ H s → t σ H Q → wpAny (model X.prog X.w) X.A (eval e X.env) (EP X pins σ Q) X.xe s
def PT (X : Cx) (e : Expr) (t : TT) : Prop :=
  ∀ (pins : List (Addr × Obj)) (s : Shared) (σ : St) (H : Hp) (Q : Bool → Hp → Prop), Inv X pins σ H s → t σ H Q → wpAny (model X.prog X.w) X.A (isTrue e X.env (eval e X.env)) (TP X pins σ Q) X.xe s
def PW (X : Cx) (e : Expr) (t : TT) : Prop :=
  ∀ (whole : Sem Value) (pins : List (Addr × Obj)) (s : Shared) (σ : St) (H : Hp) (Q : Bool → Hp → Prop), Inv X pins σ H s → t σ H Q → wpAny (model X.prog X.w) X.A (isTrue e X.env whole) (TP X pins σ Q) X.xe s
theorem PW.pt {X : Cx} {e : Expr} {t : TT} (h : PW X e t) : PT X e t := h _
def PA (X : Cx) (es : List Expr) (t : TA) : Prop :=
  ∀ (pos : Pos) (pins : List (Addr × Obj)) (s : Shared) (σ : St) (H : Hp) (Q : List V → Hp → Prop), Inv X pins σ H s → t σ H Q → wpAny (model X.prog X.w) X.A (spliced (backTo pos (starEach es X.env))) (AP X pins σ Q) X.xe s
def PS (X : Cx) (st : Stmt) (t : TS) : Prop :=
  ∀ (pins : List (Addr × Obj)) (s : Shared) (σ : St) (H : Hp) (D : Ends), Inv X pins σ H s → t D σ H → wpAny (model X.prog X.w) X.A (exec st X.env) (SP X pins D) X.xe s
def Ez (X : Cx) (st : List Stmt) (t : TS) : Prop :=
  ∀ (pins : List (Addr × Obj)) (s : Shared) (σ : St) (H : Hp) (D : Ends), Inv X pins σ H s → t D σ H → wpAny (model X.prog X.w) X.A (execs st X.env) (SP X pins D) X.xe s
theorem Bg {α : Type} {t : Sem α} {Q Q' : α → Shared → Prop} {M : Model} {A : Around} {E : Value → Shared → Prop} {s : Shared} (h : wpAny M A t Q E s) (hQ : ∀ a s, Q a s → Q' a s) : wpAny M A t Q' E s := wpAny_mono h hQ fun _ _ x => x
end L2
namespace L2
open PySem PySem.Spec PyProof.Rows
section
variable {X : Cx}
def Eh (i : Nat) : TE := fun σ H Q => ∃ v, σ[i]? = some (some v) ∧ Q v H
def tC (v : V) : TE := fun _ H Q => Q v H
theorem M4 {i : Nat} {x : Str} {pos : Pos} (hN : X.N[i]? = some x) (hv : Ig X.env.scope x) (hd : (x == ("__debug__" : Str)) = false := by decide) (hcd : (x == ("__classdict__" : Str)) = false := by decide) : PE X (.Name x pos) (Eh i) := by
  intro pins s σ H Q I h
  obtain ⟨v, e, h⟩ := h
  obtain ⟨m, hn, hl⟩ := I.loc
  obtain ⟨u, r, l⟩ := hl i x v hN e hv
  have fin : EP X pins σ Q u s := ⟨v, H, I, r, h⟩
  rcases l with ⟨hk, hm⟩ | ⟨hk, c, hc, hcell⟩
  · exact wpAny_Name (wpAny_loadName_local I.ok.kind hk hn hm fin) hd
  · rcases hk with hk | hk
    · exact wpAny_Name (wpAny_loadName_cell I.ok.kind hk hc hcell fin) hd
    · exact wpAny_Name (wpAny_loadName_free I.ok.kind hk hc hcell fin hcd) hd
theorem ACL {i j pos} : PE X (.Constant (.int i) j pos) (tC (.int i)) := fun _ _ _ H _ I h => wpAny_Constant_int ⟨.int i, H, I.tok _, ⟨_, rfl⟩, h⟩
theorem AJy {b j pos} : PE X (.Constant (.bool b) j pos) (tC (.bl b)) := fun _ _ _ H _ I h => Constant_bool ⟨.bl b, H, I, rfl, h⟩
theorem AAT {j pos} : PE X (.Constant .none j pos) (tC .non) := fun _ _ _ H _ I h => Constant_none ⟨.non, H, I, rfl, h⟩
theorem AIb {x j pos} : PE X (.Constant (.str x) j pos) (tC (.str x)) := fun _ _ _ H _ I h => Calls.Constant_str ⟨.str x, H, I.tok _, ⟨_, rfl⟩, h⟩
def Gl (X : Cx) (x : Str) : Prop := X.env.kindOf x = some .globalImplicit
theorem RG {E : Value → Shared → Prop} {pins : List (Addr × Obj)} {s : Shared} {σ : St} {H : Hp} {x : Str} {u : Value} {pos : Pos} {Q : Value → Shared → Prop} (I : Inv X pins σ H s) (hg : Gl X x) (hm : X.mg x = some u) (h : Q u s) (hd : (x == ("__debug__" : Str)) = false := by decide) : wpAny (model X.prog X.w) X.A (eval (.Name x pos) X.env) Q E s :=
  Calls.Name_function_global I.ok.kind hg (Calls.loadGlobal_global (by rw [I.ok.glob]; exact I.mod.glob.keeps I.bk) hm h) hd
theorem Ox {E : Value → Shared → Prop} {pins : List (Addr × Obj)} {s : Shared} {σ : St} {H : Hp} {x : Str} {u : Value} {pos : Pos} {Q : Value → Shared → Prop} (I : Inv X pins σ H s) (hg : Gl X x) (hm : X.mg x = none) (hv : bootBuiltins x = some u) (h : Q u s) (hn : x ≠ "__name__" := by decide) (hd : (x == ("__debug__" : Str)) = false := by decide) : wpAny (model X.prog X.w) X.A (eval (.Name x pos) X.env) Q E s := by
  obtain ⟨mb, h1, h2⟩ := I.mod.blt
  exact Calls.Name_function_global I.ok.kind hg (Calls.loadGlobal_builtin (by rw [I.ok.glob]; exact I.mod.glob.keeps I.bk) hm (by rw [I.ok.blt]; exact h1.keeps I.bk) ((h2 x hn).trans hv) h) hd
theorem N7 {x : Str} {v : V} {u : Value} {pos : Pos} (hg : Gl X x) (hm : X.mg x = some u) (r : RelV v u) (hd : (x == ("__debug__" : Str)) = false := by decide) : PE X (.Name x pos) (tC v) :=
  fun _ _ _ H _ I h => RG I hg hm ⟨v, H, I, r, h⟩ hd
theorem yI {x : Str} {v : V} {u : Value} {pos : Pos} (hg : Gl X x) (hm : X.mg x = none) (hv : bootBuiltins x = some u) (r : RelV v u) (hn : x ≠ "__name__" := by decide) (hd : (x == ("__debug__" : Str)) = false := by decide) : PE X (.Name x pos) (tC v) :=
  fun _ _ _ H _ I h => Ox I hg hm hv ⟨v, H, I, r, h⟩ hn hd
variable {a b : Expr} {ta tb : TE} {pos : Pos}
def PC (X : Cx) (op : CmpOp) (a b : Expr) (t : TE) : Prop :=
  ∀ (pins : List (Addr × Obj)) (s : Shared) (σ : St) (H : Hp) (Q : VK), Inv X pins σ H s → t σ H Q →
    wpAny (model X.prog X.w) X.A (eval a X.env) (fun v s₁ => wpAny (model X.prog X.w) X.A (eval b X.env) (fun u s₂ => wpAny (model X.prog X.w) X.A (compareOp op v u) (EP X pins σ Q) X.xe s₂) X.xe s₁) X.xe s
def tB (t : TE) : TT := fun σ H Q => t σ H fun x H1 => ∃ c, x = .bl c ∧ Q c H1
theorem AEg {e : Expr} {t : TE} (h : PE X e t) (he : ∀ whole, isTrue e X.env whole = (do let v ← whole; standAt e.pos; holding [v] (truthy v)) := by intro _; rfl) : PT X e (tB t) := by
  intro pins s σ H Q I hw
  refine isTrue_plain (Bg (h pins s σ H _ I hw) fun v s1 ⟨x, H1, I1, r1, q1⟩ => ?_) (he _)
  obtain ⟨d, rfl, q⟩ := q1
  cases r1
  exact wpAny_truthy_bool ⟨H1, I1, q⟩
variable {tA tB' : TT} {rest : List Expr}
def mF (t u : TT) : TT := fun σ H Q => t σ H fun c H1 => if c = true then u σ H1 Q else Q false H1
def qN (t u : TT) : TT := fun σ H Q => t σ H fun c H1 => if c = true then Q true H1 else u σ H1 Q
def tX (t : TT) : TT := fun σ H Q => t σ H fun c H1 => Q (!c) H1
theorem ABb (ha : PT X a tA) : PW X (.BoolOp .And [a] pos) tA := by
  intro wh pins s σ H Q I h
  refine isTrue_and (Bg (ha pins s σ H Q I h) fun c s1 e => ?_)
  cases c with
  | true => exact isTrue_and_nil e
  | false => exact e
theorem ADk (ha : PT X a tA) : PW X (.BoolOp .Or [a] pos) tA := by
  intro wh pins s σ H Q I h
  refine isTrue_or (Bg (ha pins s σ H Q I h) fun c s1 e => ?_)
  cases c with
  | false => exact isTrue_or_nil e
  | true => exact e
theorem AAu (ha : PT X a tA) (hb : PW X (.BoolOp .And (b :: rest) pos) tB') : PW X (.BoolOp .And (a :: b :: rest) pos) (mF tA tB') := by
  intro wh pins s σ H Q I h
  refine isTrue_and (Bg (ha pins s σ H _ I h) fun c s1 ⟨H1, I1, q1⟩ => ?_)
  cases c with
  | true => exact hb wh pins s1 σ H1 Q I1 q1
  | false => exact ⟨H1, I1, q1⟩
theorem AFs (ha : PT X a tA) (hb : PW X (.BoolOp .Or (b :: rest) pos) tB') : PW X (.BoolOp .Or (a :: b :: rest) pos) (qN tA tB') := by
  intro wh pins s σ H Q I h
  refine isTrue_or (Bg (ha pins s σ H _ I h) fun c s1 ⟨H1, I1, q1⟩ => ?_)
  cases c with
  | true => exact ⟨H1, I1, q1⟩
  | false => exact hb wh pins s1 σ H1 Q I1 q1
theorem AIh (ha : PT X a tA) : PT X (.UnaryOp .Not a pos) (tX tA) := by
  intro pins s σ H Q I h
  exact isTrue_not (ha pins s σ H (fun c H1 => Q (!c) H1) I h)
def v7 (ta tb : TE) : TE := fun σ H Q => ta σ H fun x H1 => ∃ c, x = .bl c ∧ if c = true then tb σ H1 Q else Q (.bl false) H1
def uC (ta tb : TE) : TE := fun σ H Q => ta σ H fun x H1 => ∃ c, x = .bl c ∧ if c = true then Q (.bl true) H1 else tb σ H1 Q
def oE (ta : TE) : TE := fun σ H Q => ta σ H fun x H1 => ∃ c, x = .bl c ∧ Q (.bl (!c)) H1
theorem AHS {op} {t : TE} (h : PE X a t) : PE X (.BoolOp op [a] pos) t := fun pins s σ H Q I hw => BoolOp_one (h pins s σ H Q I hw)
theorem AHi (ha : PE X a ta) (hb : PE X (.BoolOp .And (b :: rest) pos) tb) : PE X (.BoolOp .And (a :: b :: rest) pos) (v7 ta tb) := by
  intro pins s σ H Q I h
  refine BoolOp_and (Bg (ha pins s σ H _ I h) fun v s1 ⟨x, H1, I1, r1, q1⟩ => ?_)
  obtain ⟨c, rfl, q1⟩ := q1
  cases r1
  refine wpAny_truthy_bool ?_
  cases c with
  | true => exact hb pins s1 σ H1 Q I1 q1
  | false => exact ⟨.bl false, H1, I1, rfl, q1⟩
theorem AAG (ha : PE X a ta) (hb : PE X (.BoolOp .Or (b :: rest) pos) tb) : PE X (.BoolOp .Or (a :: b :: rest) pos) (uC ta tb) := by
  intro pins s σ H Q I h
  refine BoolOp_or (Bg (ha pins s σ H _ I h) fun v s1 ⟨x, H1, I1, r1, q1⟩ => ?_)
  obtain ⟨c, rfl, q1⟩ := q1
  cases r1
  refine wpAny_truthy_bool ?_
  cases c with
  | false => exact hb pins s1 σ H1 Q I1 q1
  | true => exact ⟨.bl true, H1, I1, rfl, q1⟩
theorem AHz (ha : PE X a ta) : PE X (.UnaryOp .Not a pos) (oE ta) := by
  intro pins s σ H Q I h
  refine UnaryOp_ (Bg (ha pins s σ H _ I h) fun v s1 ⟨x, H1, I1, r1, q1⟩ => ?_)
  obtain ⟨c, rfl, q1⟩ := q1
  cases r1
  exact not_of (wpAny_truthy_bool ⟨.bl (!c), H1, I1, rfl, q1⟩)
def nD (t : TT) (ta tb : TE) : TE := fun σ H Q => t σ H fun c H1 => if c = true then ta σ H1 Q else tb σ H1 Q
theorem AJp {c : Expr} (hc : PT X c tA) (ha : PE X a ta) (hb : PE X b tb) : PE X (.IfExp c a b pos) (nD tA ta tb) := by
  intro pins s σ H Q I h
  refine wpAny_IfExp (Bg (hc pins s σ H _ I h) fun d s1 ⟨H1, I1, q1⟩ => ?_)
  cases d with
  | true => exact ha pins s1 σ H1 Q I1 q1
  | false => exact hb pins s1 σ H1 Q I1 q1
end
end L2
namespace L2
open PySem PySem.Spec PyProof.Rows
def Bl (K : Frag) (H : Hp) (a : Addr) (xs : List V) : Prop :=
  Rd H a (.lst xs) ∨
    ∃ (o : Obj) (its : Array Value) (n : Nat), K.lookup a = some o ∧ o.cls = .type "list" ∧ o.dict = none ∧ o.data = .seq its n ∧ its.size ≤ sizeLine ∧ Vals xs its.toList
def Dt (K : Frag) (H : Hp) (a : Addr) (xs : List V) : Prop :=
  Rd H a (.tup xs) ∨
    ∃ (o : Obj) (its : Array Value) (n : Nat), K.lookup a = some o ∧ o.cls = .type "tuple" ∧ o.data = .seq its n ∧ its.size ≤ sizeLine ∧ Vals xs its.toList
def AIQ : Value → Option V
  | .none => some .non
  | .bool b => some (.bl b)
  | .int i _ => some (.int i)
  | .str x _ => some (.str x)
  | .bytes b _ => some (.byt b)
  | .float b _ => some (.flt b)
  | .ref a => some (.ref a)
  | .type n => some (.ty n)
  | _ => none
theorem RelV.abs {x : V} {u : Value} (r : RelV x u) : AIQ u = some x := by
  cases x with
  | non => cases r; rfl
  | bl _ => cases r; rfl
  | int _ => obtain ⟨t, rfl⟩ := r; rfl
  | str _ => obtain ⟨t, rfl⟩ := r; rfl
  | byt _ => obtain ⟨t, rfl⟩ := r; rfl
  | flt _ => obtain ⟨t, rfl⟩ := r; rfl
  | ref _ => cases r; rfl
  | ty _ => cases r; rfl
theorem RelV.inj {x y : V} {u : Value} (r : RelV x u) (q : RelV y u) : x = y := Option.some.inj (r.abs.symm.trans q.abs)
theorem Vals.inj : ∀ {xs ys : List V} {us : List Value}, Vals xs us → Vals ys us → xs = ys
  | _, _, _, .nil, .nil => rfl
  | _, _, _, .cons r t, .cons r' t' => by rw [r.inj r', Vals.inj t t']
section
variable {X : Cx} {pins : List (Addr × Obj)} {σ : St} {H : Hp} {s : Shared} {a : Addr} {xs ys : List V}
theorem Bl.of {K : Frag} (h : H a = some (.lst xs)) : Bl K H a xs := .inl (.inl h)
theorem Dt.of {K : Frag} (h : H a = some (.tup xs)) : Dt K H a xs := .inl (.inl h)
theorem Inv.list (I : Inv X pins σ H s) (h : Bl X.K H a xs) : ∃ its : List Value, Vals xs its ∧ PlainL s.heap a its.toArray ∧ xs.length ≤ sizeLine := by
  rcases h with h | ⟨o, its, n, hk, hc, hd, hs, hz, r⟩
  · obtain ⟨z, its, n, r, e⟩ := h.ok I.hok
    exact ⟨its, r, ⟨_, n, e, rfl, rfl, rfl⟩, z⟩
  · refine ⟨its.toList, r, ⟨o, n, I.DP a o hk, hc, hd, by simpa using hs⟩, ?_⟩
    have e := r.length
    simp only [Array.length_toList] at e
    omega
theorem Inv.tuple (I : Inv X pins σ H s) (h : Dt X.K H a xs) : ∃ its : List Value, Vals xs its ∧ IsTup s.heap a its.toArray ∧ xs.length ≤ sizeLine := by
  rcases h with h | ⟨o, its, n, hk, hc, hs, hz, r⟩
  · obtain ⟨z, its, r, p⟩ := h.ok I.hok
    exact ⟨its, r, p, z⟩
  · refine ⟨its.toList, r, ⟨o, I.DP a o hk, hc, n, by simpa using hs⟩, ?_⟩
    have e := r.length
    simp only [Array.length_toList] at e
    omega
theorem Inv.Xq (I : Inv X pins σ H s) (h : Bl X.K H a xs) (h' : Bl X.K H a ys) : xs = ys := by
  obtain ⟨its, r, ⟨o, n, e, _, _, d⟩, _⟩ := I.list h
  obtain ⟨its', r', ⟨o', n', e', _, _, d'⟩, _⟩ := I.list h'
  rw [e] at e'; cases e'
  rw [d] at d'
  injection d' with d1 _
  have : its = its' := by simpa using congrArg Array.toList d1
  subst this
  exact r.inj r'
theorem Inv.AHL (I : Inv X pins σ H s) (h : Dt X.K H a xs) (h' : Dt X.K H a ys) : xs = ys := by
  obtain ⟨its, r, ⟨o, e, _, n, d⟩, _⟩ := I.tuple h
  obtain ⟨its', r', ⟨o', e', _, n', d'⟩, _⟩ := I.tuple h'
  rw [e] at e'; cases e'
  rw [d] at d'
  injection d' with d1 _
  have : its = its' := by simpa using congrArg Array.toList d1
  subst this
  exact r.inj r'
end
abbrev Cx.Hl (X : Cx) (E : Value → Shared → Prop) : Cx := { X with xe := E }
abbrev Cx.Ds (X : Cx) : Cx := X.Hl fun _ _ => False
theorem Cx.Ok.Hl {X : Cx} (ok : X.Ok) (E : Value → Shared → Prop) : (X.Hl E).Ok :=
  ⟨ok.mod, ok.kind, ok.glob, ok.blt, ok.above, ok.inj, ok.has, ok.cab, ok.hd, ok.frames, ok.stk, ok.exf, ok.bs, ok.bsz, ok.noex, ok.exfs, ok.Hn, ok.frf⟩
theorem Cx.Ok.Ie {X : Cx} {E : Value → Shared → Prop} (ok : (X.Hl E).Ok) : X.Ok :=
  ⟨ok.mod, ok.kind, ok.glob, ok.blt, ok.above, ok.inj, ok.has, ok.cab, ok.hd, ok.frames, ok.stk, ok.exf, ok.bs, ok.bsz, ok.noex, ok.exfs, ok.Hn, ok.frf⟩
section
variable {X : Cx} {pins : List (Addr × Obj)} {σ : St} {H : Hp} {s : Shared} {E : Value → Shared → Prop}
theorem Inv.Hl (I : Inv X pins σ H s) (E : Value → Shared → Prop) : Inv (X.Hl E) pins σ H s := ⟨I.ok.Hl E, I.os, I.bare, I.base, I.loc, I.cell, I.free, I.freeC, I.pin, I.hok, I.len⟩
theorem Inv.Ie (I : Inv (X.Hl E) pins σ H s) : Inv X pins σ H s := ⟨I.ok.Ie, I.os, I.bare, I.base, I.loc, I.cell, I.free, I.freeC, I.pin, I.hok, I.len⟩
theorem SP.Ie {D : Ends} {f : Flow} {s' : Shared} (h : SP (X.Hl E) pins D f s') : SP X pins D f s' := by
  cases f with
  | next => obtain ⟨σ', H', I, q⟩ := h; exact ⟨σ', H', I.Ie, q⟩
  | brk => obtain ⟨σ', H', I, q⟩ := h; exact ⟨σ', H', I.Ie, q⟩
  | cont => obtain ⟨σ', H', I, q⟩ := h; exact ⟨σ', H', I.Ie, q⟩
  | ret u => obtain ⟨v, σ', H', I, r, q⟩ := h; exact ⟨v, σ', H', I.Ie, r, q⟩
theorem PT.Ds {e : Expr} {t : TT} (h : PT X.Ds e t) : PT X e t := fun pins s σ H Q I hw =>
  wpAny_mono (h pins s σ H Q (I.Hl _) hw) (fun _ _ ⟨H', I', q⟩ => ⟨H', I'.Ie, q⟩) fun _ _ z => False.elim z
theorem Ez.Ds {st : List Stmt} {t : TS} (h : Ez X.Ds st t) : Ez X st t := fun pins s σ H D I hw =>
  wpAny_mono (h pins s σ H D (I.Hl _) hw) (fun _ _ q => q.Ie) fun _ _ z => False.elim z
end
section
variable {X : Cx} {st : Stmt} {rest : List Stmt} {t u : TS} {e : Expr} {te : TE} {pos : Pos}
def mC : TS := fun D σ H => D.nx σ H
def Yw (t u : TS) : TS := fun D σ H => t { D with nx := u D } σ H
theorem AHG : Ez X [] mC := fun _ _ σ H _ I h => wpAny_execs_nil ⟨σ, H, I, h⟩
theorem aV (h1 : PS X st t) (h2 : Ez X rest u) : Ez X (st :: rest) (Yw t u) := by
  intro pins s σ H D I h
  refine wpAny_execs_cons (Bg (h1 pins s σ H { D with nx := u D } I h) fun f s1 q => ?_)
  cases f with
  | next =>
    obtain ⟨σ', H', I', q⟩ := q
    exact h2 pins s1 σ' H' D I' q
  | ret v => exact q
  | brk => exact q
  | cont => exact q
theorem eN (h1 : PS X st t) : Ez X [st] t := by
  intro pins s σ H D I h
  refine wpAny_execs_cons (Bg (h1 pins s σ H D I h) fun f s1 q => ?_)
  cases f with
  | next => exact wpAny_execs_nil q
  | ret v => exact q
  | brk => exact q
  | cont => exact q
theorem Inv.quiet {pins : List (Addr × Obj)} {σ : St} {H : Hp} {s : Shared} (I : Inv X pins σ H s) : interactive X.env = false := by simp [interactive, I.ok.kind]
def Qf (te : TE) : TS := fun D σ H => te σ H fun _ H1 => D.nx σ H1
theorem kY (he : PE X e te) (hs : swapsWith e none pos.line X.env = pure false := by rfl) : PS X (.Expr e pos) (Qf te) := by
  intro pins s σ H D I h
  exact wpAny_Expr_any (Bg (he pins s σ H _ I h) fun v s1 ⟨x, H1, I1, r1, q1⟩ => ⟨σ, H1, I1, q1⟩) I.quiet hs
def N6 (te : TE) : TS := fun D σ H => te σ H D.rt
theorem Qn (he : PE X e te) : PS X (.Return (some e) pos) (N6 te) := by
  intro pins s σ H D I h
  exact wpAny_Return_some (Bg (he pins s σ H _ I h) fun v s1 ⟨x, H1, I1, r1, q1⟩ => ⟨x, σ, H1, I1, r1, q1⟩)
def iD (c : TT) (t u : TS) : TS := fun D σ H => c σ H fun b H1 => if b = true then t D σ H1 else u D σ H1
theorem yX {c : Expr} {a b : List Stmt} {tc : TT} (hc : PT X c tc) (ha : Ez X a t) (hb : Ez X b u) : PS X (.If c a b pos) (iD tc t u) := by
  intro pins s σ H D I h
  refine wpAny_If (Bg (hc pins s σ H _ I h) fun d s1 ⟨H1, I1, q1⟩ => ?_)
  cases d with
  | true => exact ha pins s1 σ H1 D I1 q1
  | false => exact hb pins s1 σ H1 D I1 q1
def Ue : TS := fun _ _ _ => False
theorem AH4 : PS X st Ue := fun _ _ _ _ _ _ h => h.elim
theorem lM {sts : List Stmt} : Ez X sts Ue := fun _ _ _ _ _ _ h => h.elim
end
abbrev TG := V → St → Hp → (St → Hp → Prop) → Prop
abbrev Pj := List V → St → Hp → (St → Hp → Prop) → Prop
def PG (X : Cx) (target : Expr) (t : TG) : Prop :=
  ∀ (pins : List (Addr × Obj)) (s : Shared) (σ : St) (H : Hp) (v : V) (u : Value) (Q : St → Hp → Prop), Inv X pins σ H s → RelV v u → t v σ H Q →
    wpAny (model X.prog X.w) X.A (assign target X.env u) (fun _ s' => ∃ σ' H', Inv X pins σ' H' s' ∧ Q σ' H') X.xe s
def Yn (X : Cx) (ts : List Expr) (t : Pj) : Prop :=
  ∀ (pins : List (Addr × Obj)) (s : Shared) (σ : St) (H : Hp) (vs : List V) (us : List Value) (Q : St → Hp → Prop), Inv X pins σ H s → Vals vs us → t vs σ H Q →
    wpAny (model X.prog X.w) X.A (assignInOrder ((assignEach ts X.env).map (·.2)) us) (fun _ s' => ∃ σ' H', Inv X pins σ' H' s' ∧ Q σ' H') X.xe s
abbrev aG := V → V → V → Hp → (Hp → Prop) → Prop
def oM (X : Cx) (t : aG) : Prop :=
  ∀ (pins : List (Addr × Obj)) (s : Shared) (σ : St) (H : Hp) (o i v : V) (ov iv u : Value) (Q : Hp → Prop), Inv X pins σ H s → RelV o ov → RelV i iv → RelV v u → t o i v H Q →
    wpAny (model X.prog X.w) X.A (setItem ov iv u) (fun _ s' => ∃ H', Inv X pins σ H' s' ∧ Q H') X.xe s
section
variable {X : Cx} {pos : Pos}
def El (i : Nat) : TG := fun v σ H Q => Q (σ.set i (some v)) H
theorem Ko {i : Nat} {x : Str} (hN : X.N.Nodup) (hi : X.N[i]? = some x) (hx : Loc X.env.scope x) (hf : X.fn x = true ∨ X.env.scope.names.lookup x = some .local := by first | exact .inl rfl | exact .inr rfl | assumption) : PG X (.Name x pos) (El i) := by
  intro pins s σ H v u Q I r h
  exact wpAny_assign_Name (bB I hN hi hx r (fun s' I' => ⟨_, H, I', h⟩) hf)
def Uc : Pj := fun vs σ H Q => vs = [] ∧ Q σ H
def KJ (t : TG) (u : Pj) : Pj := fun vs σ H Q => ∃ v r, vs = v :: r ∧ t v σ H fun σ' H' => u r σ' H' Q
theorem Zj : Yn X [] Uc := by
  intro pins s σ H vs us Q I r h
  obtain ⟨e, h⟩ := h
  subst e
  cases r
  exact assignInOrder_nil ⟨σ, H, I, h⟩
theorem Oj {e : Expr} {es : List Expr} {t : TG} {u : Pj} (h1 : PG X e t) (h2 : Yn X es u) (hs : (assignEach (e :: es) X.env).map (·.2) = assign e X.env :: (assignEach es X.env).map (·.2) := by rfl) : Yn X (e :: es) (KJ t u) := by
  intro pins s σ H vs us Q I r h
  obtain ⟨v, vr, e1, h⟩ := h
  subst e1
  cases r with
  | cons r rr =>
    rw [hs]
    refine assignInOrder_cons (Bg (h1 pins s σ H _ _ _ I r h) fun _ s1 ⟨σ1, H1, I1, q1⟩ => ?_)
    exact h2 pins s1 σ1 H1 _ _ Q I1 rr q1
def VH (K : Frag) (n : Nat) (t : Pj) : TG := fun v σ H Q => ∃ a xs, v = .ref a ∧ Dt K H a xs ∧ xs.length = n ∧ t xs σ H Q
theorem j0 {es : List Expr} {k : Nat} {t : Pj} {n : Nat} (hc : X.calm = true) (h : Yn X es t) (hn : (assignEach es X.env).length = n := by rfl) (hst : (assignEach es X.env).findIdx? (·.1) = none := by rfl) : PG X (.Tuple es k pos) (VH X.K n t) := by
  intro pins s σ H v u Q I r hw
  obtain ⟨a, xs, e1, hq, hl, hw⟩ := hw
  subst e1
  cases r
  obtain ⟨its, rv, ht, hz⟩ := I.tuple hq
  refine assign_Tuple_tuple (I.ok.hd hc) ht (by simp [hn, ← hl, rv.length]) hst fun h' hx => ?_
  have I1 : Inv X pins σ H { s with heap := h' } := I.kept (t' := s.toks) fun b o e => hx b o (Nat.ne_of_lt (Heap.lt_size e)) e
  exact h pins _ σ H xs _ Q I1 (by simpa using rv) hw
def Ra (to ti : TE) (t : aG) : TG := fun v σ H Q => to σ H fun o H1 => ti σ H1 fun i H2 => t o i v H2 fun H3 => Q σ H3
theorem sY {o i : Expr} {to ti : TE} {t : aG} (ho : PE X o to) (hi : PE X i ti) (hs : oM X t) (ha : ∀ v, assign (.Subscript o i pos) X.env v = (do
      let ov ← holding [v] (eval o X.env)
      let iv ← holding [v, ov] (eval i X.env)
      standAt pos
      holding [v, ov, iv] (setItem ov iv v)
      release [v, ov, iv] []) := by intro _; rfl) : PG X (.Subscript o i pos) (Ra to ti t) := by
  intro pins s σ H v u Q I r h
  rw [ha]
  refine wpAny_bind (wpAny_holding (Bg (ho pins s σ H _ I h) fun ov s1 ⟨x, H1, I1, r1, q1⟩ => ?_))
  refine wpAny_bind (wpAny_holding (Bg (hi pins s1 σ H1 _ I1 q1) fun iv s2 ⟨y, H2, I2, r2, q2⟩ => ?_))
  refine wpAny_bind (wpAny_standAt (wpAny_bind (wpAny_holding (Bg (hs pins s2 σ H2 x y v ov iv u _ I2 r1 r2 r q2) fun _ s3 ⟨H3, I3, q3⟩ => ?_))))
  exact wpAny_release ⟨σ, H3, I3, q3⟩
def Gg (te : TE) (g : TG) : TS := fun D σ H => te σ H fun x H1 => g x σ H1 D.nx
theorem lG {tg e : Expr} {te : TE} {g : TG} (he : PE X e te) (hg : PG X tg g) (hs : swapsWithSole [tg] e pos.line X.env = pure false := by rfl) (hw : swappedStores [tg] e X.env = pure none := by rfl)
    (h1 : (assignEach [tg] X.env).map (·.2) = [assign tg X.env] := by rfl) : PS X (.Assign [tg] e pos) (Gg te g) := by
  intro pins s σ H D I h
  refine wpAny_Assign_stores (Bg (he pins s σ H _ I h) fun v s1 ⟨x, H1, I1, r1, q1⟩ => ?_) hs hw
  rw [h1]
  exact Bg (hg pins s1 σ H1 x v _ I1 r1 q1) fun _ s2 q => q
theorem WN {i : Nat} {x : Str} {e : Expr} {te : TE} {pos' : Pos} (hN : X.N.Nodup) (hi : X.N[i]? = some x) (hx : Loc X.env.scope x) (he : PE X e te) (hs : swapsWith e (some (.Name x pos')) pos.line X.env = pure false := by rfl) (hf : X.fn x = true ∨ X.env.scope.names.lookup x = some .local := by first | exact .inl rfl | exact .inr rfl | assumption) :
    PS X (.Assign [.Name x pos'] e pos) (Gg te (El i)) := by
  intro pins s σ H D I h
  refine wpAny_Assign_Name (Bg (he pins s σ H _ I h) fun v s1 ⟨y, H1, I1, r1, q1⟩ => ?_) hs
  exact bB I1 hN hi hx r1 (fun s2 I2 => ⟨_, H1, I2, q1⟩) hf
end
section
variable {X : Cx} {pos : Pos}
def b7 (c : TT) (tb : TS) : TS := fun D σ H => ∃ W : Nat → St → Hp → Prop, (∃ m, W m σ H) ∧ ∀ m σ H, W m σ H →
  c σ H fun b H1 => if b = true then ∃ N : St → Hp → Prop, (∀ σ' H', N σ' H' → ∃ m', m' < m ∧ W m' σ' H') ∧ tb { D with nx := N, ct := N, bk := D.nx } σ H1 else D.nx σ H1
theorem AKY {c : Expr} {body : List Stmt} {tc : TT} {tb : TS} (hp : PassesOwn (model X.prog X.w) X.A X.env X.xe) (hc : PT X c tc) (hb : Ez X body tb) : PS X (.While c body [] pos) (b7 tc tb) := by
  intro pins s σ H D I h
  obtain ⟨W, ⟨m0, w0⟩, turn⟩ := h
  refine wpAny_While (codeAny_whileLoop (fun n s' => ∃ σ' H', Inv X pins σ' H' s' ∧ W n σ' H') ?_ m0 ⟨σ, H, I, w0⟩)
  rintro n s1 ⟨σ1, H1, I1, w1⟩
  refine wpAny_passesOwn hp (Bg (hc pins s1 σ1 H1 _ I1 (turn n σ1 H1 w1)) fun b s2 ⟨H2, I2, q2⟩ => ?_)
  cases b with
  | true =>
    obtain ⟨N, hN, q2⟩ := q2
    rw [if_pos rfl]
    refine wpAny_passesOwn hp (Bg (hb pins s2 σ1 H2 _ I2 q2) fun f s3 q3 => ?_)
    cases f with
    | next =>
      obtain ⟨σ3, H3, I3, n3⟩ := q3
      obtain ⟨m', hm, w3⟩ := hN σ3 H3 n3
      exact ⟨m', hm, σ3, H3, I3, w3⟩
    | cont =>
      obtain ⟨σ3, H3, I3, n3⟩ := q3
      obtain ⟨m', hm, w3⟩ := hN σ3 H3 n3
      exact ⟨m', hm, σ3, H3, I3, w3⟩
    | brk => exact q3
    | ret v => exact q3
  | false =>
    rw [if_neg Bool.false_ne_true]
    exact wpAny_execs_nil ⟨σ1, H2, I2, q2⟩
end
structure It where
  go : Nat → Hp → Prop
  yld : Nat → Hp → V → Hp → Prop
  stop : Nat → Hp → Prop
def Hm (X : Cx) (pins : List (Addr × Obj)) (H : Hp) (b : Addr) : Prop :=
  H b = none ∧ b ≠ X.env.locals ∧ b ∉ X.fs ∧ (b ∈ X.ex ∨ X.s₀.heap.objs.size ≤ b) ∧ (∀ x c, X.env.cells.lookup x = some c → c ≠ b) ∧ ∀ p ∈ X.pn ++ pins, p.1 ≠ b
theorem Inv.Pz {X : Cx} {pins : List (Addr × Obj)} {σ : St} {H H' : Hp} {s : Shared} {b : Addr} (I : Inv X pins σ H s) (hb : s.heap.objs.size ≤ b) (hn : H' b = none) : Hm X pins H' b := by
  refine ⟨hn, Nat.ne_of_gt (Nat.lt_of_lt_of_le I.lt hb), I.xV hb, .inr (Nat.le_trans I.sz hb), fun x c e z => ?_, fun p hp z => ?_⟩
  · obtain ⟨v, q⟩ := I.cell x c e
    exact absurd (Nat.lt_of_lt_of_le q.lt (by rw [z]; exact hb)) (Nat.lt_irrefl _)
  · exact absurd (Nat.lt_of_lt_of_le (Heap.lt_size (I.pin p hp).1) (by rw [z]; exact hb)) (Nat.lt_irrefl _)
structure Turn (P : Program) (w : World) (K : Frag) (tg : Expr) (J : It) (fp : List Addr) (it : Addr) (tn : Nat → Heap → Prop) : Prop where
  mem : it ∈ fp
  obj : ∀ i h, tn i h → ∀ b ∈ fp, ∃ o, h.get? b = some o ∧ ∀ v, o.data ≠ .cell v
  keep : ∀ i h h', tn i h → (∀ b ∈ fp, ∀ o, h.get? b = some o → h'.get? b = some o) → tn i h'
  item : ∀ (X : Cx), X.prog = P → X.w = w → X.K = K → X.calm = true → ∀ (i : Nat) (pins : List (Addr × Obj)) (s : Shared) (σ : St) (H : Hp) (E : Value → Shared → Prop), Inv X pins σ H s → (∀ b ∈ fp, Hm X pins H b) → tn i s.heap → J.go i H →
    wpAny (model P w) X.A (pyNext (.ref it)) (fun r s1 => ∃ u, r = some u ∧
      wpAny (model P w) X.A (letOwnedTupleGo tg (.ref it) u) (fun _ s2 => ∃ x H', Inv X pins σ H' s2 ∧ RelV x u ∧ J.yld i H x H' ∧ tn (i + 1) s2.heap ∧ ∀ b ∈ fp, H' b = none) E s1) E s
  done : ∀ (X : Cx), X.prog = P → X.w = w → X.K = K → X.calm = true → ∀ (i : Nat) (pins : List (Addr × Obj)) (s : Shared) (σ : St) (H : Hp) (E : Value → Shared → Prop), Inv X pins σ H s → (∀ b ∈ fp, Hm X pins H b) → tn i s.heap → J.stop i H →
    wpAny (model P w) X.A (pyNext (.ref it)) (fun r s1 => r = none ∧ Inv X pins σ H s1) E s
  self : ∀ (A : Around) (i : Nat) (s : Shared) (Q : Value → Shared → Prop) (E : Value → Shared → Prop), tn i s.heap → Q (.ref it) s → wpAny (model P w) A (pyIter (.ref it)) Q E s
abbrev TI := St → Hp → (It → Hp → Prop) → Prop
def qW (X : Cx) (pins : List (Addr × Obj)) (σ : St) (tg : Expr) (R : It → Hp → Prop) (itv : Value) (s2 : Shared) : Prop :=
  ∃ (it : Addr) (fp : List Addr) (tn : Nat → Heap → Prop) (J : It) (H' : Hp), itv = .ref it ∧ Inv X pins σ H' s2 ∧ Turn X.prog X.w X.K tg J fp it tn ∧ tn 0 s2.heap ∧ (∀ b ∈ fp, Hm X pins H' b) ∧ R J H'
def PI (X : Cx) (tg iter : Expr) (wi : TI) : Prop :=
  ∀ (pins : List (Addr × Obj)) (s : Shared) (σ : St) (H : Hp) (R : It → Hp → Prop), Inv X pins σ H s → wi σ H R →
    wpAny (model X.prog X.w) X.A (eval iter X.env) (fun v s1 => wpAny (model X.prog X.w) X.A (pyIter v) (qW X pins σ tg R) X.xe s1) X.xe s
theorem Xx {M : Model} {A : Around} {E : Value → Shared → Prop} {s : Shared} {tg : Expr} {it : Addr} {u : Value} {o : Obj} {n : String} {vs : Array Value} {Q : Unit → Shared → Prop} (ho : s.heap.get? it = some o) (hc : o.cls = .type n) (hd : o.data = .fields vs) (hn : ["enumerate", "zip", "dict_itemiterator", "dict_reverseitemiterator", "odict_iterator", "itertools.zip_longest", "itertools.pairwise"].contains n = false) (hQ : Q () s) : wpAny M A (letOwnedTupleGo tg (.ref it) u) Q E s := by
  unfold letOwnedTupleGo
  cases tg <;> first
    | exact wpAny_pure hQ
    | (cases u <;> first
        | exact wpAny_pure hQ
        | (refine wpAny_bind (wpAny_load ho ?_)
           rw [hc, hd]
           show wpAny M A (if (["enumerate", "zip", "dict_itemiterator", "dict_reverseitemiterator", "odict_iterator", "itertools.zip_longest", "itertools.pairwise"].contains n && vs[0]? == some (rawInt _)) = true then _ else _) Q E s
           rw [if_neg (by intro h; rw [hn, Bool.false_and] at h; cases h)]
           exact wpAny_pure hQ))
def eY (K : Frag) (a : Addr) : It :=
  ⟨fun i H => ∃ xs x, Bl K H a xs ∧ xs[i]? = some x, fun i H x H' => H' = H ∧ ∀ xs, Bl K H a xs → xs[i]? = some x, fun i H => ∃ xs, Bl K H a xs ∧ xs.length ≤ i⟩
def iQ (K : Frag) (a : Addr) : It :=
  ⟨fun i H => ∃ xs x, Dt K H a xs ∧ xs[i]? = some x, fun i H x H' => H' = H ∧ ∀ xs, Dt K H a xs → xs[i]? = some x, fun i H => ∃ xs, Dt K H a xs ∧ xs.length ≤ i⟩
def Ym (lo : Int) (n : Nat) : It := ⟨fun i _ => i < n, fun i H x H' => H' = H ∧ x = .int (lo + i), fun i _ => n ≤ i⟩
theorem AKX {P : Program} {w : World} {K : Frag} {tg : Expr} (a it : Addr) : Turn P w K tg (eY K a) [it] it (fun i h => h.IsListIter it a i) where
  mem := by simp
  obj := fun i h st b hb => by
    have e : b = it := by simpa using hb
    subst e
    obtain ⟨o, e, c, d⟩ := st
    exact ⟨o, e, fun v z => by rw [d] at z; cases z⟩
  keep := fun i h h' st k => st.at fun o e => k it (by simp) o e
  item := by
    intro X hP hw hK hc i pins s σ H E I hf st hg
    subst hP hw hK
    obtain ⟨xs, x, hq, hx⟩ := hg
    obtain ⟨its, rv, p, hz⟩ := I.list hq
    obtain ⟨u, hu, ru⟩ := rv.get hx
    obtain ⟨f0, f1, f2, f3, f4, f5⟩ := hf it (by simp)
    refine wpAny_pyNext_list_item st p.isList (x := u) (by simpa using hu) fun h' st' sb => ?_
    have I1 : Inv X pins σ H { s with heap := h' } := I.turned (t' := s.toks) (fun b o hb e => (sb.2 b hb).trans e) f0 f1 f3 f4 f5
    obtain ⟨o, e, c, d⟩ := id st'
    exact ⟨u, rfl, Xx (s := { s with heap := h' }) e c d (by decide) ⟨x, H, I1, ru, ⟨rfl, fun ys hy => by rw [I.Xq hy hq]; exact hx⟩, st', fun b hb => (hf b hb).1⟩⟩
  done := by
    intro X hP hw hK hc i pins s σ H E I hf st hg
    subst hP hw hK
    obtain ⟨xs, hq, hx⟩ := hg
    obtain ⟨its, rv, p, hz⟩ := I.list hq
    obtain ⟨f0, f1, f2, f3, f4, f5⟩ := hf it (by simp)
    have hl := rv.length
    exact wpAny_pyNext_list_end (I.ok.hd hc) st p.isList (by simp; omega) fun h' eb => ⟨rfl, I.turned (t' := s.toks) (fun b o hb e => eb b o hb e) f0 f1 f3 f4 f5⟩
  self := fun _ _ _ _ _ st h => wpAny_pyIter_listiter st h
theorem AHy {P : Program} {w : World} {K : Frag} {tg : Expr} (a it : Addr) : Turn P w K tg (iQ K a) [it] it (fun i h => h.IsTupleIter it a i) where
  mem := by simp
  obj := fun i h st b hb => by
    have e : b = it := by simpa using hb
    subst e
    obtain ⟨o, e, c, d⟩ := st
    exact ⟨o, e, fun v z => by rw [d] at z; cases z⟩
  keep := fun i h h' st k => st.at fun o e => k it (by simp) o e
  item := by
    intro X hP hw hK hc i pins s σ H E I hf st hg
    subst hP hw hK
    obtain ⟨xs, x, hq, hx⟩ := hg
    obtain ⟨its, rv, p, hz⟩ := I.tuple hq
    obtain ⟨u, hu, ru⟩ := rv.get hx
    obtain ⟨f0, f1, f2, f3, f4, f5⟩ := hf it (by simp)
    refine wpAny_pyNext_tuple_item st (show s.heap.IsTuple a its.toArray from p) (x := u) (by simpa using hu) fun h' st' sb => ?_
    have I1 : Inv X pins σ H { s with heap := h' } := I.turned (t' := s.toks) (fun b o hb e => (sb.2 b hb).trans e) f0 f1 f3 f4 f5
    obtain ⟨o, e, c, d⟩ := id st'
    exact ⟨u, rfl, Xx (s := { s with heap := h' }) e c d (by decide) ⟨x, H, I1, ru, ⟨rfl, fun ys hy => by rw [I.AHL hy hq]; exact hx⟩, st', fun b hb => (hf b hb).1⟩⟩
  done := by
    intro X hP hw hK hc i pins s σ H E I hf st hg
    subst hP hw hK
    obtain ⟨xs, hq, hx⟩ := hg
    obtain ⟨its, rv, p, hz⟩ := I.tuple hq
    obtain ⟨f0, f1, f2, f3, f4, f5⟩ := hf it (by simp)
    have hl := rv.length
    exact wpAny_pyNext_tuple_end (I.ok.hd hc) st (show s.heap.IsTuple a its.toArray from p) (by simp; omega) fun h' eb => ⟨rfl, I.turned (t' := s.toks) (fun b o hb e => eb b o hb e) f0 f1 f3 f4 f5⟩
  self := fun _ _ _ _ _ st h => wpAny_pyIter_tupleiter st h
theorem AGv {P : Program} {w : World} {K : Frag} {tg : Expr} (it : Addr) (lo : Int) (n : Nat) : Turn P w K tg (Ym lo n) [it] it (fun i h => IsRangeIter h it (lo + (i : Nat) * 1) ((n : Int) - (i : Nat)) 1) where
  mem := by simp
  obj := fun i h st b hb => by
    have e : b = it := by simpa using hb
    subst e
    exact ⟨_, st, fun v z => by
      have z' : Data.fields _ = Data.cell v := z
      cases z'⟩
  keep := fun i h h' st k => k it (by simp) _ st
  item := by
    intro X hP hw hK hc i pins s σ H E I hf st hg
    subst hP hw hK
    obtain ⟨f0, f1, f2, f3, f4, f5⟩ := hf it (by simp)
    have W := Walks.range (prog := X.prog) (w := X.w) (I.ok.hd hc) it lo 1 n
    refine W.item i s _ _ hg st fun v h' tk hv st' kk => ?_
    obtain ⟨t, rfl⟩ := hv
    have I1 : Inv X pins σ H { s with heap := h', toks := tk } := I.turned (fun b o hb e => kk b o (by simpa using hb) e) f0 f1 f3 f4 f5
    refine ⟨_, rfl, Xx (s := { s with heap := h', toks := tk }) (n := "range_iterator") st' rfl rfl (by decide) ⟨.int (lo + i), H, I1, ⟨t, ?_⟩, ⟨rfl, rfl⟩, st', fun b hb => (hf b hb).1⟩⟩
    rw [Int.mul_one]
  done := by
    intro X hP hw hK hc i pins s σ H E I hf st hg
    subst hP hw hK
    obtain ⟨f0, f1, f2, f3, f4, f5⟩ := hf it (by simp)
    exact wpAny_pyNext_range_end (I.ok.hd hc) st (by have : n ≤ i := hg; omega) fun h' eb => ⟨rfl, I.turned (t' := s.toks) (fun b o hb e => eb b o hb e) f0 f1 f3 f4 f5⟩
  self := fun _ _ _ _ _ st h => wpAny_pyIter_rangeiter st h
end L2
namespace L2
open PySem PySem.Spec PyProof.Rows
section
variable {X : Cx} {tg : Expr}
def uZ (K : Frag) (tl : TE) : TI := fun σ H R => tl σ H fun x H1 => ∃ a, x = .ref a ∧ (∃ xs, Bl K H1 a xs) ∧ R (eY K a) H1
def yP (K : Frag) (tl : TE) : TI := fun σ H R => tl σ H fun x H1 => ∃ a, x = .ref a ∧ (∃ xs, Dt K H1 a xs) ∧ R (iQ K a) H1
theorem AEq {l : Expr} {tl : TE} (hl : PE X l tl) : PI X tg l (uZ X.K tl) := by
  intro pins s σ H R I h
  refine Bg (hl pins s σ H _ I h) fun v s1 ⟨x, H1, I1, r1, q1⟩ => ?_
  obtain ⟨a, e, ⟨xs, hq⟩, q⟩ := q1
  subst e
  cases r1
  obtain ⟨its, rv, p, hz⟩ := I1.list hq
  refine wpAny_pyIter_list p.isList ?_
  refine ⟨s1.heap.objs.size, [s1.heap.objs.size], _, _, H1, rfl, I1.kept (t' := s1.toks) fun b o e => Heap.get?_push_of_some _ e, AKX a _, ⟨_, Heap.get?_push_size _ rfl, rfl, rfl⟩, fun b hb => ?_, q⟩
  have e : b = s1.heap.objs.size := by simpa using hb
  subst e
  exact I1.Pz (Nat.le_refl _) (I1.hok.fresh (Nat.le_refl _))
theorem AIB {l : Expr} {tl : TE} (hl : PE X l tl) : PI X tg l (yP X.K tl) := by
  intro pins s σ H R I h
  refine Bg (hl pins s σ H _ I h) fun v s1 ⟨x, H1, I1, r1, q1⟩ => ?_
  obtain ⟨a, e, ⟨xs, hq⟩, q⟩ := q1
  subst e
  cases r1
  obtain ⟨its, rv, p, hz⟩ := I1.tuple hq
  refine wpAny_pyIter_tuple (show s1.heap.IsTuple a its.toArray from p) ?_
  refine ⟨s1.heap.objs.size, [s1.heap.objs.size], _, _, H1, rfl, I1.kept (t' := s1.toks) fun b o e => Heap.get?_push_of_some _ e, AHy a _, ⟨_, Heap.get?_push_size _ rfl, rfl, rfl⟩, fun b hb => ?_, q⟩
  have e : b = s1.heap.objs.size := by simpa using hb
  subst e
  exact I1.Pz (Nat.le_refl _) (I1.hok.fresh (Nat.le_refl _))
theorem AAc {pins : List (Addr × Obj)} {σ : St} {H : Hp} {s : Shared} {R : It → Hp → Prop} {E : Value → Shared → Prop} {lo hi : Int} {t u v : Tok} {tk : Nat} (I : Inv X pins σ H s) (h1 : -(2 ^ 62) ≤ lo) (h2 : lo < 2 ^ 62) (h3 : -(2 ^ 62) ≤ hi) (h4 : hi < 2 ^ 62) (q : R (Ym lo (hi - lo).toNat) H) : wpAny (model X.prog X.w) X.A (pyIter (.ref s.heap.objs.size)) (qW X pins σ tg R) E { s with heap := s.heap.push { cls := .type "range", data := .fields #[.int lo t, .int hi u, .int 1 v] }, toks := tk } := by
  refine wpAny_pyIter_range (IsRange.new ..) (small_one h1 h2 h3 h4) ?_
  have I1 : Inv X pins σ H { s with heap := s.heap.push { cls := .type "range", data := .fields #[.int lo t, .int hi u, .int 1 v] }, toks := tk } := I.kept fun b o e => Heap.get?_push_of_some _ e
  refine ⟨(s.heap.push { cls := .type "range", data := .fields #[.int lo t, .int hi u, .int 1 v] }).objs.size, [(s.heap.push { cls := .type "range", data := .fields #[.int lo t, .int hi u, .int 1 v] }).objs.size], _, _, H, rfl,
    I1.kept (t' := tk) fun b o e => Heap.get?_push_of_some _ e, AGv _ lo (hi - lo).toNat, ?_, fun b hb => ?_, q⟩
  · have e1 : lo + ((0 : Nat) : Int) * 1 = lo := by simp
    have e2 : (((hi - lo).toNat : Nat) : Int) - ((0 : Nat) : Int) = Builtin.Range.rangeSize lo hi 1 := by rw [rangeSize_one]; split <;> omega
    show IsRangeIter _ _ (lo + ((0 : Nat) : Int) * 1) ((((hi - lo).toNat : Nat) : Int) - ((0 : Nat) : Int)) 1
    rw [e1, e2]
    exact Heap.get?_push_size _ rfl
  · have e : b = (s.heap.push { cls := .type "range", data := .fields #[.int lo t, .int hi u, .int 1 v] }).objs.size := by simpa using hb
    subst e
    exact I1.Pz (Nat.le_refl _) (I1.hok.fresh (Nat.le_refl _))
def eQ (ta : TA) : TI := fun σ H R => ta σ H fun vs H1 => ∃ j : Int, vs = [.int j] ∧ -(2 ^ 62) ≤ j ∧ j < 2 ^ 62 ∧ R (Ym 0 j.toNat) H1
theorem vH {a : Expr} {ta : TA} {p pos : Pos} (hg : Gl X "range") (hm : X.mg "range" = none) (ha : PA X [a] ta) (hs : starEach [a] X.env = [(false, eval a X.env)] := by rfl) : PI X tg (.Call (.Name "range" p) [a] [] pos) (eQ ta) := by
  intro pins s σ H R I h
  refine Call_ (Ox I hg hm boot_range (PyProof.Rows.callWith_type1 (Bg (ha pos pins s σ H _ I h) fun us s1 ⟨vs, H1, I1, r1, q1⟩ => ?_) hs rfl))
  obtain ⟨j, e, q1, q2, q⟩ := q1
  subst e
  cases r1 with
  | cons r rr =>
    cases rr
    obtain ⟨t, rfl⟩ := r
    exact call_range_1 (AAc I1 (by omega) (by omega) q1 q2 (by simpa using q))
def Wj (wi : TI) (g : TG) (tb : TS) : TS := fun D σ H => wi σ H fun J H1 => ∃ W : Nat → Nat → St → Hp → Prop, (∃ m, W 0 m σ H1) ∧ ∀ i m σ H, W i m σ H →
  (J.stop i H ∧ D.nx σ H) ∨ (J.go i H ∧ ∃ N : St → Hp → Prop, (∀ σ' H', N σ' H' → ∃ m', m' < m ∧ W (i + 1) m' σ' H') ∧ ∀ x H', J.yld i H x H' → g x σ H' fun σ2 H2 => tb { D with nx := N, ct := N, bk := D.nx } σ2 H2)
def VF (fp : List Addr) (h : Heap) : List (Addr × Obj) := fp.filterMap fun b => (h.get? b).map fun o => (b, o)
theorem YZ {fp : List Addr} {h : Heap} {b : Addr} {o : Obj} (hb : b ∈ fp) (e : h.get? b = some o) : (b, o) ∈ VF fp h := List.mem_filterMap.mpr ⟨b, hb, by rw [e]; rfl⟩
theorem AEk {fp : List Addr} {h : Heap} {p : Addr × Obj} (hp : p ∈ VF fp h) : p.1 ∈ fp ∧ h.get? p.1 = some p.2 := by
  obtain ⟨b, hb, e⟩ := List.mem_filterMap.mp hp
  cases q : h.get? b with
  | none => rw [q] at e; cases e
  | some o =>
    rw [q] at e
    have e' : (b, o) = p := Option.some.inj e
    subst e'
    exact ⟨hb, q⟩
theorem Inv.pinned {pins : List (Addr × Obj)} {σ : St} {H : Hp} {s : Shared} {fp : List Addr} (I : Inv X pins σ H s) (hf : ∀ b ∈ fp, Hm X pins H b) (ho : ∀ b ∈ fp, ∃ o, s.heap.get? b = some o ∧ ∀ v, o.data ≠ .cell v) : Inv X (pins ++ VF fp s.heap) σ H s :=
  I.fY fun p hp => (List.mem_append.mp hp).elim (fun z => I.pin p (By z)) fun z => by
    obtain ⟨hb, e⟩ := AEk z
    obtain ⟨f0, f1, f2, _⟩ := hf p.1 hb
    obtain ⟨o, e', d⟩ := ho p.1 hb
    rw [e] at e'; cases e'
    exact ⟨e, f0, f1, f2, d⟩
theorem Inv.Ry {pins pl : List (Addr × Obj)} {σ : St} {H : Hp} {s : Shared} (I : Inv X (pins ++ pl) σ H s) : Inv X pins σ H s := I.fY fun p hp => I.pin p (By (Dn hp))
theorem xZ {iter : Expr} {body : List Stmt} {wi : TI} {g : TG} {tb : TS} {pos : Pos} (hp : PassesOwn (model X.prog X.w) X.A X.env X.xe) (hc : X.calm = true) (hi : PI X tg iter wi) (hg : PG X tg g) (hb : Ez X body tb) (hs : ∀ x, foldedSetIterable iter X.env x = pure x := by intro _; rfl) : PS X (.For tg iter body [] pos) (Wj wi g tb) := by
  intro pins s σ H D I h
  refine wpAny_For (Bg (hi pins s σ H _ I h) fun v s1 h1 => Bg h1 fun itv s2 h2 => ?_) hs
  obtain ⟨it, fp, tn, J, H2, e, I2, T, st2, f2, W, ⟨m0, w0⟩, turn⟩ := h2
  subst e
  have stat : ∀ {H' : Hp}, (∀ b ∈ fp, H' b = none) → ∀ b ∈ fp, Hm X pins H' b := fun hn b hb => ⟨hn b hb, (f2 b hb).2⟩
  refine codeAny_forLoop_any (fun n s' => ∃ i σ' H', Inv X pins σ' H' s' ∧ tn i s'.heap ∧ (∀ b ∈ fp, H' b = none) ∧ W i n σ' H') ?_ m0 ⟨0, σ, H2, I2, st2, fun b hb => (f2 b hb).1, w0⟩
  rintro n s3 ⟨i, σ3, H3, I3, st3, fr3, w3⟩
  rcases turn i n σ3 H3 w3 with ⟨stop, qn⟩ | ⟨go, N, hN, step⟩
  · refine wpAny_passesOwn hp (Bg (T.done X rfl rfl rfl hc i pins s3 σ3 H3 X.xe I3 (stat fr3) st3 stop) fun r s4 ⟨hr, I4⟩ => ?_)
    subst hr
    exact wpAny_execs_nil ⟨σ3, H3, I4, qn⟩
  · refine wpAny_passesOwn hp (Bg (T.item X rfl rfl rfl hc i pins s3 σ3 H3 X.xe I3 (stat fr3) st3 go) fun r s4 ⟨u, hr, h4⟩ => ?_)
    subst hr
    refine wpAny_passesOwn hp (Bg h4 fun _ s5 ⟨x, H5, I5, r5, y5, st5, fr5⟩ => ?_)
    have I5' := I5.pinned (stat fr5) (T.obj _ _ st5)
    refine wpAny_passesOwn hp (Bg (hg _ s5 σ3 H5 x u _ I5' r5 (step x H5 y5)) fun _ s6 ⟨σ6, H6, I6, q6⟩ => ?_)
    refine wpAny_passesOwn hp (Bg (hb _ s6 σ6 H6 _ I6 q6) fun f s7 q7 => ?_)
    have again : ∀ {σ7 : St} {H7 : Hp}, Inv X (pins ++ VF fp s5.heap) σ7 H7 s7 → N σ7 H7 → ∃ m, m < n ∧ ∃ i σ' H', Inv X pins σ' H' s7 ∧ tn i s7.heap ∧ (∀ b ∈ fp, H' b = none) ∧ W i m σ' H' := fun {σ7 H7} I7 n7 => by
      obtain ⟨m', hm, w7⟩ := hN σ7 H7 n7
      refine ⟨m', hm, i + 1, σ7, H7, I7.Ry, T.keep _ _ _ st5 fun b hb o e => (I7.pin (b, o) (By (By (YZ hb e)))).1, fun b hb => ?_, w7⟩
      obtain ⟨o, e, d⟩ := T.obj _ _ st5 b hb
      exact (I7.pin (b, o) (By (By (YZ hb e)))).2.1
    cases f with
    | next => obtain ⟨σ7, H7, I7, n7⟩ := q7; exact again I7 n7
    | cont => obtain ⟨σ7, H7, I7, n7⟩ := q7; exact again I7 n7
    | brk => obtain ⟨σ7, H7, I7, q7⟩ := q7; exact ⟨σ7, H7, I7.Ry, q7⟩
    | ret v => obtain ⟨x7, σ7, H7, I7, r7, q7⟩ := q7; exact ⟨x7, σ7, H7, I7.Ry, r7, q7⟩
end
end L2
namespace L2
open PySem PySem.Spec PyProof.Rows
abbrev R2 := V → V → Hp → VK → Prop
def EY (X : Cx) (f : Value → Value → Sem Value) (r : R2) : Prop :=
  ∀ (pins : List (Addr × Obj)) (s : Shared) (σ : St) (H : Hp) (x y : V) (v u : Value) (Q : VK), Inv X pins σ H s → RelV x v → RelV y u → r x y H Q →
    wpAny (model X.prog X.w) X.A (f v u) (EP X pins σ Q) X.xe s
def Z8 (X : Cx) (f : Value → Sem Value) (r : V → Hp → VK → Prop) : Prop :=
  ∀ (pins : List (Addr × Obj)) (s : Shared) (σ : St) (H : Hp) (x : V) (v : Value) (Q : VK), Inv X pins σ H s → RelV x v → r x H Q →
    wpAny (model X.prog X.w) X.A (f v) (EP X pins σ Q) X.xe s
def Hj (X : Cx) (f : Value) (r : List V → Hp → VK → Prop) : Prop :=
  ∀ (pins : List (Addr × Obj)) (s : Shared) (σ : St) (H : Hp) (xs : List V) (us : List Value) (Q : VK), Inv X pins σ H s → Vals xs us → r xs H Q →
    wpAny (model X.prog X.w) X.A (call f us) (EP X pins σ Q) X.xe s
def JZ (r : R2) (ta tb : TE) : TE := fun σ H Q => ta σ H fun x H1 => tb σ H1 fun y H2 => r x y H2 Q
def wK (r : V → Hp → VK → Prop) (ta : TE) : TE := fun σ H Q => ta σ H fun x H1 => r x H1 Q
def rI (C : Int → Int → Prop) (g : Int → Int → V) : R2 := fun x y H Q => ∃ i j, x = .int i ∧ y = .int j ∧ C i j ∧ Q (g i j) H
def Hb (g : Int → Int → V) : R2 := fun x y H Q => ∃ i j, x = .int i ∧ y = .int j ∧ Q (g i j) H
def rU (g : Int → V) : V → Hp → VK → Prop := fun x H Q => ∃ i, x = .int i ∧ Q (g i) H
section
variable {X : Cx} {a b c : Expr} {ta tb tc : TE} {pos : Pos}
theorem ZX (ha : PE X a ta) (hb : PE X b tb) {pins : List (Addr × Obj)} {s : Shared} {σ : St} {H : Hp} {R : V → V → Hp → Prop} (I : Inv X pins σ H s) (h : ta σ H fun x H1 => tb σ H1 fun y H2 => R x y H2) {Q : Value → Shared → Prop} {f : Value → Value → Sem Value} (hf : ∀ v u s2 x y H2, Inv X pins σ H2 s2 → RelV x v → RelV y u → R x y H2 → wpAny (model X.prog X.w) X.A (f v u) Q X.xe s2) :
    wpAny (model X.prog X.w) X.A (eval a X.env) (fun v s₁ => wpAny (model X.prog X.w) X.A (eval b X.env) (fun u s₂ => wpAny (model X.prog X.w) X.A (f v u) Q X.xe s₂) X.xe s₁) X.xe s := by
  refine Bg (ha pins s σ H _ I h) fun v s1 ⟨x, H1, I1, r1, q1⟩ => ?_
  refine Bg (hb pins s1 σ H1 _ I1 q1) fun u s2 ⟨y, H2, I2, r2, q2⟩ => ?_
  exact hf v u s2 x y H2 I2 r1 r2 q2
theorem yN {op : Operator} {r : R2} (ho : EY X (binaryOp op) r) (ha : PE X a ta) (hb : PE X b tb) : PE X (.BinOp a op b pos) (JZ r ta tb) := by
  intro pins s σ H Q I h
  exact wpAny_BinOp (ZX ha hb I h fun v u s2 x y H2 I2 rx ry q => ho pins s2 σ H2 x y v u Q I2 rx ry q)
theorem ACX {op : UnaryOp} {r : V → Hp → VK → Prop} (ho : Z8 X (unaryOp op) r) (ha : PE X a ta) : PE X (.UnaryOp op a pos) (wK r ta) := by
  intro pins s σ H Q I h
  exact UnaryOp_ (Bg (ha pins s σ H _ I h) fun v s1 ⟨x, H1, I1, r1, q1⟩ => ho pins s1 σ H1 x v Q I1 r1 q1)
theorem Yj {f : Value → Value → Sem Value} {C : Int → Int → Prop} {g : Int → Int → Int} (rule : ∀ (i j : Int) (t u : Tok) (s : Shared) (Q : Value → Shared → Prop) (E : Value → Shared → Prop), C i j → Q (.int (g i j) s.toks) { s with toks := s.toks + 1 } → wpAny (model X.prog X.w) X.A (f (.int i t) (.int j u)) Q E s) :
    EY X f (rI C fun i j => .int (g i j)) := by
  intro pins s σ H x y v u Q I rx ry h
  obtain ⟨i, j, rfl, rfl, hc, q⟩ := h
  obtain ⟨t, rfl⟩ := rx
  obtain ⟨t', rfl⟩ := ry
  exact rule i j t t' s _ _ hc ⟨.int (g i j), H, I.tok _, ⟨_, rfl⟩, q⟩
theorem oN {f : Value → Value → Sem Value} {g : Int → Int → Int} (rule : ∀ (i j : Int) (t u : Tok) (s : Shared) (Q : Value → Shared → Prop) (E : Value → Shared → Prop), Q (.int (g i j) s.toks) { s with toks := s.toks + 1 } → wpAny (model X.prog X.w) X.A (f (.int i t) (.int j u)) Q E s) :
    EY X f (Hb fun i j => .int (g i j)) := by
  intro pins s σ H x y v u Q I rx ry h
  obtain ⟨i, j, rfl, rfl, q⟩ := h
  obtain ⟨t, rfl⟩ := rx
  obtain ⟨t', rfl⟩ := ry
  exact rule i j t t' s _ _ ⟨.int (g i j), H, I.tok _, ⟨_, rfl⟩, q⟩
theorem Yr {f : Value → Value → Sem Value} {g : Int → Int → Bool} (rule : ∀ (i j : Int) (t u : Tok) (s : Shared) (Q : Value → Shared → Prop) (E : Value → Shared → Prop), Q (.bool (g i j)) s → wpAny (model X.prog X.w) X.A (f (.int i t) (.int j u)) Q E s) :
    EY X f (Hb fun i j => .bl (g i j)) := by
  intro pins s σ H x y v u Q I rx ry h
  obtain ⟨i, j, rfl, rfl, q⟩ := h
  obtain ⟨t, rfl⟩ := rx
  obtain ⟨t', rfl⟩ := ry
  exact rule i j t t' s _ _ ⟨.bl (g i j), H, I, rfl, q⟩
def lJ (i j : Int) : Prop := 0 ≤ j ∧ j ≤ 1000000 ∧ i.natAbs < 2 ^ 64
def Vv (i j : Int) : Prop := (-(2 ^ 64) < i ∧ i < 2 ^ 64) ∨ (-(2 ^ 64) < j ∧ j < 2 ^ 64)
theorem Vv.ok {i j : Int} (h : Vv i j) : IntMulOk i j := by
  rcases h with ⟨h1, h2⟩ | ⟨h1, h2⟩
  · exact .of_left (intBits_le_64 h1 h2)
  · exact .of_right (intBits_le_64 h1 h2)
theorem AG9 : EY X (binaryOp .Add) (Hb fun i j => .int (i + j)) := oN fun _ _ _ _ _ _ _ q => add_int q
theorem AHT : EY X (binaryOp .Sub) (Hb fun i j => .int (i - j)) := oN fun _ _ _ _ _ _ _ q => sub_int q
theorem AJd : EY X (binaryOp .Mult) (rI Vv fun i j => .int (i * j)) := Yj fun _ _ _ _ _ _ _ hc q => mul_int q hc.ok
theorem AKK : EY X (binaryOp .Mod) (rI (fun _ j => 0 < j) fun i j => .int (i % j)) := Yj fun i j _ _ _ _ _ hc q => by
  have h1 : (0 : Int) < j := hc
  exact mod_int' (by omega) (by rw [Int.fmod_eq_emod_of_nonneg i (by omega)]; exact q)
theorem AGA : EY X (binaryOp .Pow) (rI lJ fun i j => .int (i ^ j.toNat)) := Yj fun _ _ _ _ _ _ _ hc q => pow_int_small hc.1 hc.2.1 hc.2.2 q
theorem unI {f : Value → Sem Value} {g : Int → Int} (rule : ∀ (i : Int) (t : Tok) (s : Shared) (Q : Value → Shared → Prop) (E : Value → Shared → Prop), Q (.int (g i) s.toks) { s with toks := s.toks + 1 } → wpAny (model X.prog X.w) X.A (f (.int i t)) Q E s) :
    Z8 X f (rU fun i => .int (g i)) := by
  intro pins s σ H x v Q I rx h
  obtain ⟨i, rfl, q⟩ := h
  obtain ⟨t, rfl⟩ := rx
  exact rule i t s _ _ ⟨.int (g i), H, I.tok _, ⟨_, rfl⟩, q⟩
theorem AAx : Z8 X (unaryOp .USub) (rU fun i => .int (-i)) := unI fun _ _ _ _ _ q => neg_int q
end
section
variable {X : Cx} {a b c : Expr} {ta tb tc : TE} {pos : Pos}
theorem vQ {pins : List (Addr × Obj)} {σ : St} {H : Hp} {s : Shared} {Q : VK} {k k' : Bool} (I : Inv X pins σ H s) (q : Q (.bl k) H) (e : k = k') : EP X pins σ Q (.bool k') s := by
  subst e
  exact ⟨.bl k, H, I, rfl, q⟩
theorem AHC : EY X (compareOp .Lt) (Hb fun i j => .bl (decide (i < j))) := Yr fun _ _ _ _ _ _ _ q => lt_int q
theorem AJw : EY X (compareOp .LtE) (Hb fun i j => .bl (decide (i ≤ j))) := Yr fun _ _ _ _ _ _ _ q => le_int q
theorem AJs : EY X (compareOp .Gt) (Hb fun i j => .bl (decide (j < i))) := Yr fun _ _ _ _ _ _ _ q => gt_int q
theorem AIe : EY X (compareOp .GtE) (Hb fun i j => .bl (decide (j ≤ i))) := Yr fun _ _ _ _ _ _ _ q => ge_int q
theorem AJL : EY X (compareOp .Is) (fun x y H Q => y = .non ∧ Q (.bl (decide (x = .non))) H) := by
  intro pins s σ H x y v u Q I rx ry h
  obtain ⟨rfl, q⟩ := h
  cases ry
  refine is_none_gen (vQ I q ?_)
  cases x <;> first
    | (cases rx; rfl)
    | (obtain ⟨t, rfl⟩ := rx; rfl)
theorem AGg : EY X (compareOp .IsNot) (fun x y H Q => y = .non ∧ Q (.bl (!decide (x = .non))) H) := by
  intro pins s σ H x y v u Q I rx ry h
  obtain ⟨rfl, q⟩ := h
  cases ry
  refine isnot_none_gen (vQ I q ?_)
  cases x <;> first
    | (cases rx; rfl)
    | (obtain ⟨t, rfl⟩ := rx; rfl)
theorem Ce (b : Expr) {op : CmpOp} (h : op ≠ .In := by decide) (h2 : op ≠ .NotIn := by decide) : behindInMarks op b = false := by
  have e1 : (op == CmpOp.In) = false := by cases op <;> first | rfl | exact absurd rfl h
  have e2 : (op == CmpOp.NotIn) = false := by cases op <;> first | rfl | exact absurd rfl h2
  cases b <;> simp [behindInMarks, e1, e2]
theorem ADe {op : CmpOp} {r : R2} (ho : EY X (compareOp op) r) (ha : PE X a ta) (hb : PE X b tb) (hm : behindInMarks op b = false) : PE X (.Compare a [op] [b] pos) (JZ r ta tb) := by
  intro pins s σ H Q I h
  exact wpAny_Compare1 (ZX ha hb I h fun v u s2 x y H2 I2 rx ry q => ho pins s2 σ H2 x y v u Q I2 rx ry q) hm
def T8 (t : TE) : TT := fun σ H Q => t σ H fun x H' => ∃ k, x = .bl k ∧ Q k H'
theorem AJb {op : CmpOp} {r : R2} (ho : EY X (compareOp op) r) (ha : PE X a ta) (hb : PE X b tb) (hm : behindInMarks op b = false) : PT X (.Compare a [op] [b] pos) (T8 (JZ r ta tb)) := by
  intro pins s σ H Q I h
  refine wpAny_isTrue_Compare1 (Bg (ha pins s σ H _ I h) fun v s1 ⟨x, H1, I1, r1, q1⟩ => Bg (hb pins s1 σ H1 _ I1 q1) fun u s2 ⟨y, H2, I2, r2, q2⟩ =>
    Bg (ho pins s2 σ H2 x y v u _ I2 r1 r2 q2) fun c s3 ⟨z, H3, I3, r3, k, e, q3⟩ => ?_) hm
  subst e
  cases r3
  exact wpAny_truthy_bool ⟨H3, I3, q3⟩
def Uw (r r' : R2) (ta tb tc : TE) : TE := fun σ H Q => ta σ H fun x H1 => tb σ H1 fun y H2 => r x y H2 fun z H3 => ∃ k, z = .bl k ∧
  (if k = true then tc σ H3 fun w' H4 => r' y w' H4 Q else Q (.bl false) H3)
theorem AIC {op op' : CmpOp} {r r' : R2} (ho : EY X (compareOp op) r) (ho' : EY X (compareOp op') r') (ha : PE X a ta) (hb : PE X b tb) (hc : PE X c tc) (hm : lastMarks [op, op'] [b, c] = false := by with_unfolding_all rfl) : PE X (.Compare a [op, op'] [b, c] pos) (Uw r r' ta tb tc) := by
  intro pins s σ H Q I h
  refine Compare_chain (Bg (ha pins s σ H _ I h) fun v s1 ⟨x, H1, I1, r1, q1⟩ => chain_link (Bg (hb pins s1 σ H1 _ I1 q1) fun u s2 ⟨y, H2, I2, r2, q2⟩ =>
    Bg (ho pins s2 σ H2 x y v u _ I2 r1 r2 q2) fun d s3 ⟨z, H3, I3, r3, k, e, q3⟩ => ?_)) hm
  subst e
  cases r3
  refine wpAny_truthy_bool ?_
  cases k with
  | false => exact ite_ff ⟨.bl false, H3, I3, rfl, q3⟩
  | true => exact ite_tt (chain_last (Bg (hc pins s3 σ H3 _ I3 q3) fun w' s4 ⟨z', H4, I4, r4, q4⟩ => ho' pins s4 σ H4 y z' u w' Q I4 r2 r4 q4))
theorem AAs {op op' : CmpOp} {r r' : R2} (ho : EY X (compareOp op) r) (ho' : EY X (compareOp op') r') (ha : PE X a ta) (hb : PE X b tb) (hc : PE X c tc) (hm : lastMarks [op, op'] [b, c] = false := by with_unfolding_all rfl) : PT X (.Compare a [op, op'] [b, c] pos) (T8 (Uw r r' ta tb tc)) := by
  intro pins s σ H Q I h
  refine isTrue_chain (Bg (ha pins s σ H _ I h) fun v s1 ⟨x, H1, I1, r1, q1⟩ => test_link (Bg (hb pins s1 σ H1 _ I1 q1) fun u s2 ⟨y, H2, I2, r2, q2⟩ =>
    Bg (ho pins s2 σ H2 x y v u _ I2 r1 r2 q2) fun d s3 ⟨z, H3, I3, r3, k, e, q3⟩ => ?_)) hm
  subst e
  cases r3
  refine wpAny_truthy_bool ?_
  cases k with
  | false =>
    obtain ⟨k', e', q'⟩ := q3
    cases e'
    exact ite_ff ⟨H3, I3, q'⟩
  | true =>
    refine ite_tt (test_last (Bg (hc pins s3 σ H3 _ I3 q3) fun w' s4 ⟨z', H4, I4, r4, q4⟩ => Bg (ho' pins s4 σ H4 y z' u w' _ I4 r2 r4 q4) fun d' s5 ⟨z2, H5, I5, r5, k2, e2, q5⟩ => ?_))
    subst e2
    cases r5
    exact wpAny_truthy_bool ⟨H5, I5, q5⟩
theorem TY : (sizeLine : Nat) < 2 ^ 63 := by rw [sizeLine_eq]; decide
theorem vals1 {x : V} {us : List Value} (r : Vals [x] us) : ∃ u, us = [u] ∧ RelV x u := by
  cases r with
  | cons r1 r2 => cases r2; exact ⟨_, rfl, r1⟩
theorem vals2 {x y : V} {us : List Value} (r : Vals [x, y] us) : ∃ u w', us = [u, w'] ∧ RelV x u ∧ RelV y w' := by
  cases r with
  | cons r1 r2 =>
    cases r2 with
    | cons r3 r4 => cases r4; exact ⟨_, _, rfl, r1, r3⟩
theorem AHv (hc : X.calm = true) : Hj X (.builtin "max") (fun xs H Q => ∃ i j, xs = [.int i, .int j] ∧ Q (.int (if j > i then j else i)) H) := by
  intro pins s σ H xs us Q I r h
  obtain ⟨i, j, rfl, q⟩ := h
  obtain ⟨u, w', rfl, ⟨t, rfl⟩, ⟨t', rfl⟩⟩ := vals2 r
  refine max_two_ints (I.ok.hd hc) fun h' tk k => ⟨_, H, I.kept k, ?_, q⟩
  by_cases hj : j > i
  · rw [if_pos hj, if_pos hj]; exact ⟨_, rfl⟩
  · rw [if_neg hj, if_neg hj]; exact ⟨_, rfl⟩
theorem AEu : Hj X (.type "int") (fun xs H Q => (∃ i, xs = [.int i] ∧ Q (.int i) H) ∨ ∃ k, xs = [.bl k] ∧ Q (.int (if k then 1 else 0)) H) := by
  intro pins s σ H xs us Q I r h
  rcases h with ⟨i, rfl, q⟩ | ⟨k, rfl, q⟩
  · obtain ⟨u, rfl, t, rfl⟩ := vals1 r
    exact call_int_int ⟨.int i, H, I, ⟨_, rfl⟩, q⟩
  · obtain ⟨u, rfl, r1⟩ := vals1 r
    cases r1
    exact call_int_bool ⟨.int (if k then 1 else 0), H, I.tok _, ⟨_, rfl⟩, q⟩
end
end L2
namespace L2
open PySem PySem.Spec PyProof.Rows
structure Ov (h : Heap) (x dx C : Addr) (mA : Str → Option Value) : Prop where
  obj : h.get? x = some (PySem.W.instObj C dx)
  ns : h.Ns1 dx mA
  ne : dx ≠ x
theorem ABS {h : Heap} {dx : Addr} {mA : Str → Option Value} (n : h.Ns1 dx mA) : ∃ od, h.get? dx = some od ∧ ∀ name, PySem.W.lookIn name od = some (mA name) := by
  obtain ⟨o, es, ep, ho, hd, hk, _, hm⟩ := n
  refine ⟨o, ho, fun name => ?_⟩
  have e := hm name
  unfold nsFind findBy at e
  rw [← Array.find?_toList] at e
  unfold PySem.W.lookIn
  rw [hd]
  dsimp only
  split
  · rename_i y q
    rw [q] at e
    exact congrArg some e
  · rename_i q
    rw [q] at e
    have a : es.toList.any (·.refKey) = false := by
      rw [List.any_eq_false]
      intro y hy
      obtain ⟨z, t, hkey⟩ := hk y (Array.mem_toList_iff.mp hy)
      simp [DictEntry.refKey, hkey]
    have a' : ¬ es.toList.any (·.refKey) = true := by rw [a]; exact Bool.false_ne_true
    rw [if_neg a']
    exact congrArg some e
theorem Ov.look {h : Heap} {x dx C : Addr} {mA : Str → Option Value} (I : Ov h x dx C mA) : ∃ od, PySem.W.InstAt h x (PySem.W.instObj C dx) C (some od) ∧ ∀ name, PySem.W.lookIn name od = some (mA name) :=
  let ⟨od, ho, hl⟩ := ABS I.ns
  ⟨od, ⟨I.obj, rfl, rfl, ho⟩, hl⟩
section
variable {prog : Program} {w : World} {A : Around} {E : Value → Shared → Prop} {s : Shared} {K : Frag} {x dx C f : Addr} {mA : Str → Option Value} {name : Str} {v : Value}
theorem get_map {expr : Bool} {Q : Value → Shared → Prop} (X : K.In s.heap) (I : Ov s.heap x dx C mA) (hg : PySem.W.plainGet K C name = true) (hh : PySem.W.hasDictIn K C = true) (ha : findIn K (.ref C) name = some none) (hv : mA name = some v) (hv' : PySem.W.handedIn v = true) (h : Q v { s with toks := s.toks + 1 }) :
    wpAny (model prog w) A (getAttr (.ref x) name expr) Q E s := by
  obtain ⟨od, J, hl⟩ := I.look
  exact PySem.W.get_value X J (PySem.W.plainGet_of hg).1 (PySem.W.findObj_own hh ha rfl (by rw [hl, hv])) hv' h
theorem AIc {pl : Sem Bool} {Q : Value × List Value → Shared → Prop} (X : K.In s.heap) (I : Ov s.heap x dx C mA) (hg : PySem.W.plainGet K C name = true) (hf : findIn K (.ref C) name = some (some (.ref f))) (ht : PySem.W.isFn K (.ref f) = true) (hv : mA name = none) (h : Q (.ref f, [.ref x]) s) :
    wpAny (model prog w) A (getMethod (.ref x) name pl) Q E s := by
  obtain ⟨od, J, hl⟩ := I.look
  exact PySem.W.method_fn X J (PySem.W.plainGet_of hg).1 (PySem.W.plainGet_of hg).2 hf (beq_iff_eq.mp ht) (by show (PySem.W.lookIn name od).map (·.isSome) = some false; rw [hl, hv]; rfl) h
theorem AGr {ns : List Str} {Q : Unit → Shared → Prop} (X : K.In s.heap) (I : Ov s.heap x dx C mA) (hs : findIn K (.ref C) "__setattr__" = some (some (.builtin "object.__setattr__"))) (hp : PySem.W.plainOver K C = true) (ht : PySem.W.takerIn K C name = some none) (hh : PySem.W.hasDictIn K C = true) (hw : PySem.Within mA ns) (hsz : ns.length ≤ sizeLine) (h : ∀ h', Ov h' x dx C (fun y => if y = name then some v else mA y) → Heap.SameBut dx s.heap h' → Q () { s with heap := h', toks := s.toks + 2 }) :
    wpAny (model prog w) A (setAttr (.ref x) name v) Q E s := by
  obtain ⟨od, J, hl⟩ := I.look
  refine PySem.W.set_plain X J hs (PySem.W.osa_open (s := { s with toks := s.toks + 1 }) (r := none) X J hp ht fun b => ?_)
  obtain ⟨cd, hc, hd'⟩ := PySem.W.any_some hh
  have hx : s.heap.get? x = some ⟨.ref C, some dx, .plain, #[]⟩ := I.obj
  refine wpAny_bind (wpAny_pure (wpAny_bind (wpAny_bind (wpAny_loadPart hx (wpAny_bind (PySem.W.Looks.here (s := { s with toks := s.toks + 1 }) (PySem.W.looks_clsIn X hc) ?_))))))
  rw [hd']
  refine wpAny_pure (a := some dx) (wpAny_bind (wpAny_pure (wpAny_bind ?_)))
  refine wpAny_nsSet1 (s := { s with toks := s.toks + 1 }) I.ns fun h' hn2 hs2 => ?_
  obtain ⟨oD, esD, epD, hoD, hdD, hcD⟩ := hn2.count (PySem.Within.cons name v hw)
  refine wpAny_bind (wpAny_lookBehind hoD (by rw [hdD]; exact pastItsLine_dict (Nat.le_trans hcD (by rw [List.length_cons]; omega))) ?_)
  exact wpAny_pure (h _ ⟨(hs2.2 _ (Ne.symm I.ne)).trans I.obj, hn2, I.ne⟩ hs2)
theorem AJI {R : Result → Shared → Prop} {vs : List Value} {kw : List (Str × Value)} (X : K.In s.heap) (hm : makesIn K C = true) (hi : findIn K (.ref C) "__init__" = some (some (.ref f))) (hf : PySem.W.typeIn K (.ref f) = some (.type "function")) (h : codeAny (model prog w) (A.under (.builtin "type.__call__" ⟨.ref C :: vs, kw⟩)) (.call (.ref f) ⟨.ref (s.heap.objs.size + 1) :: vs, kw⟩) (PySem.W.InitBack (s.heap.objs.size + 1) R)
      { s with heap := (s.heap.push PySem.W.emptyDict).push (PySem.W.instObj C s.heap.objs.size) }) :
    codeAny (model prog w) A (.call (.ref C) ⟨vs, kw⟩) R s := by
  obtain ⟨hh, g, d, t, os⟩ := s
  exact PySem.W.make_core (PySem.W.makes_of X hm) (PySem.W.looks_findIn X hi) (fun self => PySem.W.bind_fn X self hf) (.inl rfl) h
end
def FQ (f : Str) (v : V) : List (Str × V) → List (Str × V)
  | [] => [(f, v)]
  | (g, x) :: r => if g = f then (g, v) :: r else (g, x) :: FQ f v r
theorem qX (f g : Str) (v : V) : ∀ fs : List (Str × V), (FQ f v fs).lookup g = if g = f then some v else fs.lookup g
  | [] => by
    show List.lookup g [(f, v)] = _
    by_cases h : g = f
    · have hb : (g == f) = true := beq_iff_eq.mpr h
      simp only [List.lookup, hb, if_pos h]
    · have hb : (g == f) = false := beq_eq_false_iff_ne.mpr h
      simp only [List.lookup, hb, if_neg h]
  | (k, x) :: r => by
    have ih := qX f g v r
    rw [show FQ f v ((k, x) :: r) = (if k = f then (k, v) :: r else (k, x) :: FQ f v r) from rfl]
    by_cases hk : k = f
    · rw [if_pos hk]
      by_cases h : g = k
      · have hb : (g == k) = true := beq_iff_eq.mpr h
        simp only [List.lookup, hb, if_pos (h.trans hk)]
      · have hb : (g == k) = false := beq_eq_false_iff_ne.mpr h
        simp only [List.lookup, hb, if_neg (fun e : g = f => h (e.trans hk.symm))]
    · rw [if_neg hk]
      by_cases h : g = k
      · have hb : (g == k) = true := beq_iff_eq.mpr h
        simp only [List.lookup, hb, if_neg (fun e : g = f => hk (h.symm.trans e))]
      · have hb : (g == k) = false := beq_eq_false_iff_ne.mpr h
        simp only [List.lookup, hb]
        exact ih
theorem Z2 (f : Str) (v : V) : ∀ fs : List (Str × V), f ∈ (FQ f v fs).map (·.1) ∧ ∀ g, g ∈ fs.map (·.1) → g ∈ (FQ f v fs).map (·.1)
  | [] => ⟨by simp [FQ], fun g h => by simp at h⟩
  | (k, x) :: r => by
    obtain ⟨i1, i2⟩ := Z2 f v r
    rw [show FQ f v ((k, x) :: r) = (if k = f then (k, v) :: r else (k, x) :: FQ f v r) from rfl]
    by_cases hk : k = f
    · rw [if_pos hk]
      subst hk
      exact ⟨by simp, fun g h => by simpa using h⟩
    · rw [if_neg hk]
      refine ⟨?_, fun g h => ?_⟩
      · rw [List.map_cons]
        exact BZ i1
      · rw [List.map_cons] at h ⊢
        rcases List.mem_cons.mp h with e | e
        · exact List.mem_cons.mpr (.inl e)
        · exact BZ (i2 g e)
theorem lQ (f : Str) (v : V) : ∀ fs : List (Str × V), (FQ f v fs).length ≤ fs.length + 1
  | [] => by simp [FQ]
  | (k, x) :: r => by
    have ih := lQ f v r
    rw [show FQ f v ((k, x) :: r) = (if k = f then (k, v) :: r else (k, x) :: FQ f v r) from rfl]
    by_cases hk : k = f
    · rw [if_pos hk, List.length_cons, List.length_cons]; omega
    · rw [if_neg hk, List.length_cons, List.length_cons]; omega
theorem KD.some_of {v : V} {o : Option Value} (r : KD (some v) o) : ∃ u, o = some u ∧ RelV v u := by
  cases o with
  | none => exact (show False from r).elim
  | some u => exact ⟨u, rfl, r⟩
theorem KD.none_of {o : Option Value} (r : KD none o) : o = none := by
  cases o with
  | none => rfl
  | some u => exact (show False from r).elim
theorem AEV {v : V} {u : Value} (r : RelV v u) : PySem.W.handedIn u = true := by
  cases v with
  | non => cases (show u = Value.none from r); rfl
  | bl b => cases (show u = Value.bool b from r); rfl
  | int i => obtain ⟨t, e⟩ := (show ∃ t, u = Value.int i t from r); cases e; rfl
  | str x => obtain ⟨t, e⟩ := (show ∃ t, u = Value.str x t from r); cases e; rfl
  | byt b => obtain ⟨t, e⟩ := (show ∃ t, u = Value.bytes b t from r); cases e; rfl
  | flt b => obtain ⟨t, e⟩ := (show ∃ t, u = Value.float b t from r); cases e; rfl
  | ref a => cases (show u = Value.ref a from r); rfl
  | ty n => cases (show u = Value.type n from r); rfl
section
variable {P : Program} {w : World} {H H' : Hp} {h h' : Heap} {a C dx : Addr} {fs fs' : List (Str × V)}
theorem Xa (hok : Ea P w H h) (e : H a = some (.ins C dx fs)) : ∃ mA, Ov h a dx C mA ∧ (∀ f, KD (fs.lookup f) (mA f)) ∧ PySem.Within mA (fs.map (·.1)) ∧ fs.length ≤ 1000 ∧ H dx = some (.own a) := by
  obtain ⟨d, z, ne, ob, mA, n, r, q⟩ := (show Es P w H h a (.ins C dx fs) from hok a _ e)
  exact ⟨mA, ⟨ob, n, ne⟩, r, q, z, d⟩
end
structure Gq (K : Frag) (C : Addr) : Prop where
  pg : PySem.W.plainGet K C Str.empty = true
  hd : PySem.W.hasDictIn K C = true
  po : PySem.W.plainOver K C = true
  sa : findIn K (.ref C) "__setattr__" = some (some (.builtin "object.__setattr__"))
theorem Gq.get {K : Frag} {C : Addr} (c : Gq K C) (f : Str) : PySem.W.plainGet K C f = true := c.pg
def Nk (K : Frag) (C : Addr) (f : Str) : Prop := findIn K (.ref C) f = some none
theorem Nk.AHx {K : Frag} {C : Addr} {f : Str} (n : Nk K C f) : PySem.W.takerIn K C f = some none := by
  unfold PySem.W.takerIn
  rw [show findIn K (.ref C) f = some none from n]
  rfl
structure Con (K : Frag) (C : Addr) (f : Str) (v : V) (u : Value) : Prop where
  at_ : findIn K (.ref C) f = some (some u)
  rel : RelV v u
  get : PySem.W.specialIn K u "__get__" = some none
  cp : PySem.W.copiedNames.contains f = false
structure Meth (K : Frag) (C : Addr) (m : Str) (f : Addr) : Prop where
  at_ : findIn K (.ref C) m = some (some (.ref f))
  fn : PySem.W.isFn K (.ref f) = true
  kp : keepIn K (.ref f) = true
section
variable {X : Cx} {pins : List (Addr × Obj)} {σ : St} {H : Hp} {s : Shared} {a C dx : Addr} {fs : List (Str × V)} {f : Str} {v : V} {A : Around} {E : Value → Shared → Prop}
theorem ADv {b : Bool} {Q : Value → Shared → Prop} (I : Inv X pins σ H s) (e : H a = some (.ins C dx fs)) (c : Gq X.K C) (n : Nk X.K C f) (l : fs.lookup f = some v) (h : ∀ u s', Inv X pins σ H s' → RelV v u → Q u s') : wpAny (model X.prog X.w) A (getAttr (.ref a) f b) Q E s := by
  obtain ⟨mA, O, r, _, _, _⟩ := Xa I.hok e
  obtain ⟨u, hu, ru⟩ := KD.some_of (v := v) (o := mA f) (by rw [← l]; exact r f)
  exact get_map I.DP O (c.get f) c.hd n hu (AEV ru) (h u _ (I.tok _) ru)
theorem aQ {m : Str} {g : Addr} {pl : Sem Bool} {Q : Value × List Value → Shared → Prop} (I : Inv X pins σ H s) (e : H a = some (.ins C dx fs)) (c : Gq X.K C) (k : Meth X.K C m g) (l : fs.lookup m = none) (h : Q (.ref g, [.ref a]) s) : wpAny (model X.prog X.w) A (getMethod (.ref a) m pl) Q E s := by
  obtain ⟨mA, O, r, _, _, _⟩ := Xa I.hok e
  have hn : mA m = none := KD.none_of (by rw [← l]; exact r m)
  exact AIc I.DP O (c.get m) k.at_ k.fn hn h
theorem AG5 {y : V} {u : Value} {Q : Unit → Shared → Prop} (I : Inv X pins σ H s) (e : H a = some (.ins C dx fs)) (c : Gq X.K C) (n : Nk X.K C f) (hl : fs.length < 1000) (ry : RelV y u) (h : ∀ s', Inv X pins σ (upd H a (.ins C dx (FQ f y fs))) s' → Q () s') : wpAny (model X.prog X.w) A (setAttr (.ref a) f u) Q E s := by
  obtain ⟨mA, O, r, wi, _, ho⟩ := Xa I.hok e
  have hz : (fs.map (·.1)).length ≤ sizeLine := by rw [List.length_map, sizeLine_eq]; omega
  refine AGr I.DP O c.sa c.po n.AHx c.hd wi hz fun h' O' sb => h _ ?_
  have hd : ∃ o, h'.get? dx = some o := let ⟨o, _, _, e', _⟩ := O'.ns; ⟨o, e'⟩
  refine I.write (x := a) (e := dx) (by rw [e]; exact True.intro) (.inr ho) (fun b q hb z => (sb.2 b hb).trans z) hd ?_
  refine ⟨by rw [Bs O.ne]; exact ho, ?_, O.ne, O'.obj, _, O'.ns, fun g => ?_, fun g hg => ?_⟩
  · have := lQ f y fs; omega
  · show KD ((FQ f y fs).lookup g) (if g = f then some u else mA g)
    rw [qX]
    by_cases q : g = f
    · rw [if_pos q, if_pos q]; exact ry
    · rw [if_neg q, if_neg q]; exact r g
  · by_cases q : g = f
    · rw [q]; exact (Z2 f y fs).1
    · refine (Z2 f y fs).2 g (wi g fun z => hg ?_)
      show (if g = f then some u else mA g) = none
      rw [if_neg q]; exact z
theorem Inv.made (I : Inv X pins σ H s) : Inv X pins σ (upd (upd H s.heap.objs.size (.own (s.heap.objs.size + 1))) (s.heap.objs.size + 1) (.ins C s.heap.objs.size [])) { s with heap := (s.heap.push PySem.W.emptyDict).push (PySem.W.instObj C s.heap.objs.size) } := by
  have e1 : (s.heap.push PySem.W.emptyDict).get? s.heap.objs.size = some PySem.W.emptyDict := Heap.get?_push_size s.heap rfl
  have e2 : ((s.heap.push PySem.W.emptyDict).push (PySem.W.instObj C s.heap.objs.size)).get? (s.heap.objs.size + 1) = some (PySem.W.instObj C s.heap.objs.size) := by
    have := Heap.get?_push_size (s.heap.push PySem.W.emptyDict) (o := PySem.W.instObj C s.heap.objs.size) rfl
    rwa [Heap.size_push] at this
  have e3 : (s.heap.push PySem.W.emptyDict).Ns s.heap.objs.size (fun _ => none) := ⟨PySem.W.emptyDict, #[], _, e1, rfl, (fun e he => absurd he (by simp)), fun _ => rfl⟩
  have I1 := I.laid (a := s.heap.objs.size) (o := .own (s.heap.objs.size + 1)) (h' := s.heap.push PySem.W.emptyDict) (t' := s.toks) (fun b u q => Heap.get?_push_of_some _ q) (Nat.le_refl _) ⟨_, e1⟩
  refine I1.laid (a := s.heap.objs.size + 1) (o := .ins C s.heap.objs.size []) (t' := s.toks) (fun b u q => Heap.get?_push_of_some _ q) (Nat.le_of_eq (Heap.size_push _ _)) ?_
  have ne : s.heap.objs.size ≠ s.heap.objs.size + 1 := Nat.ne_of_lt (Nat.lt_succ_self _)
  refine ⟨by rw [Bs ne, Dz], Nat.zero_le _, ne, e2, fun _ => none, (Heap.Ns1.of_empty e3).at fun o q => Heap.get?_push_of_some _ q, fun _ => True.intro, fun y hy => absurd rfl hy⟩
theorem AIU {prog : Program} {w : World} {env : Env} {e : Expr} {f : Str} {pos : Pos} {s : Shared} {Q : Value → Shared → Prop} (hb : attributeBase e f env (eval e env) = eval e env) (h : wpAny (model prog w) A (eval e env) (fun o s₁ => wpAny (model prog w) A (getAttr o f true) Q E s₁) E s) : wpAny (model prog w) A (eval (.Attribute e f pos) env) Q E s :=
  Attribute_any_ h (by rw [arm_eval_Attribute, hb])
end
def mK (K : Frag) (ta : TE) (f : Str) : TE := fun σ H Q => ta σ H fun x H1 => ∃ a C dx fs v, x = .ref a ∧ H1 a = some (.ins C dx fs) ∧ Gq K C ∧ Nk K C f ∧ fs.lookup f = some v ∧ Q v H1
def Rw (K : Frag) (ta tv : TE) (f : Str) : TS := fun D σ H => tv σ H fun y H1 => ta σ H1 fun x H2 => ∃ a C dx fs, x = .ref a ∧ H2 a = some (.ins C dx fs) ∧ Gq K C ∧ Nk K C f ∧ fs.length < 1000 ∧
  D.nx σ (upd H2 a (.ins C dx (FQ f y fs)))
section
variable {X : Cx} {o e value : Expr} {f : Str} {pos pos' tpos : Pos} {ta tv : TE}
theorem AIF (he : PE X e ta) (hb : attributeBase e f X.env (eval e X.env) = eval e X.env) : PE X (.Attribute e f pos) (mK X.K ta f) := by
  intro pins s σ H Q I h
  refine AIU hb (Bg (he pins s σ H _ I h) fun u s1 ⟨x, H1, I1, rx, a, C, dx, fs, v, ex, ea, c, n, l, q⟩ => ?_)
  subst ex
  obtain rfl : u = Value.ref a := rx
  exact ADv I1 ea c n l fun u' s2 I2 ru => ⟨v, H1, I2, ru, q⟩
theorem AHt (ha : PE X o ta) (hv : PE X value tv) (hs : swapsWith value (some (.Attribute o f pos')) pos.line X.env = pure false) : PS X (.Assign [.Attribute o f pos'] value pos) (Rw X.K ta tv f) := by
  intro pins s σ H D I h
  refine plainObj_wpAny_Assign_Attribute (Bg (hv pins s σ H _ I h) fun u s1 ⟨y, H1, I1, ry, q⟩ => Bg (ha pins s1 σ H1 _ I1 q) fun ov s2 ⟨x, H2, I2, rx, a, C, dx, fs, ex, ea, c, n, l, q2⟩ => ?_) hs
  subst ex
  obtain rfl : ov = Value.ref a := rx
  exact AG5 I2 ea c n l ry fun s3 I3 => ⟨σ, _, I3, q2⟩
end
section
variable {X : Cx} {pins : List (Addr × Obj)} {σ : St} {H : Hp} {s : Shared} {A : Around} {E : Value → Shared → Prop} {Q : Value → Shared → Prop} {c : Value} {b : Bool}
inductive JC (K : Frag) (H : Hp) : V → Value → Prop where
  | non : JC K H .non (.type "NoneType")
  | bl (x : Bool) : JC K H (.bl x) (.type "bool")
  | int (i : Int) : JC K H (.int i) (.type "int")
  | str (x : Str) : JC K H (.str x) (.type "str")
  | flt (x : UInt64) : JC K H (.flt x) (.type "float")
  | lst {a : Addr} {xs : List V} (e : H a = some (.lst xs)) : JC K H (.ref a) (.type "list")
  | frz {a : Addr} {o : Obj} {xs : List V} (e : H a = some (.frz o (.lst xs))) : JC K H (.ref a) (.type "list")
  | tup {a : Addr} {xs : List V} (e : H a = some (.tup xs)) : JC K H (.ref a) (.type "tuple")
  | dK {a : Addr} {kvs : List (Key × V)} (e : H a = some (.dK kvs)) : JC K H (.ref a) (.type "dict")
  | dT {a : Addr} {kvs : List (List Key × V)} (e : H a = some (.dT kvs)) : JC K H (.ref a) (.type "dict")
  | ins {a C dx : Addr} {fs : List (Str × V)} (e : H a = some (.ins C dx fs)) (cl : Gq K C) (ha : findIn K (.ref C) "__class__" = some (some (.builtin "object.__class__")))
      (hn : PySem.W.specialIn K (.builtin "object.__class__") "__get__" = some (some (.builtin "getset_descriptor.__get__"))) (htk : PySem.W.takesIn K (.builtin "object.__class__") = some true)
      (hm : mroIn K C (.type "object") = some true) : JC K H (.ref a) (.ref C)
theorem Qi {x : V} {u t : Value} (I : Inv X pins σ H s) (rx : RelV x u) (ty : JC X.K H x t) (e : kitOne X.K t c = some b) (h : ∀ tk, Q (.bool b) { s with toks := tk }) :
    wpAny (model X.prog X.w) A (call (.builtin "isinstance") [u, c]) Q E s := by
  cases ty with
  | non => cases (show u = Value.none from rx); exact kia_one PySem.W.kitx_none I.DP True.intro e (fun z => nomatch z) h
  | bl y => cases (show u = Value.bool y from rx); exact kia_one PySem.W.kitx_bool I.DP True.intro e (fun z => nomatch z) h
  | int i => obtain ⟨t, q⟩ := (show ∃ t, u = Value.int i t from rx); cases q; exact kia_one PySem.W.kitx_int I.DP True.intro e (fun z => nomatch z) h
  | str y => obtain ⟨t, q⟩ := (show ∃ t, u = Value.str y t from rx); cases q; exact kia_one PySem.W.kitx_str I.DP True.intro e (fun z => nomatch z) h
  | flt y => obtain ⟨t, q⟩ := (show ∃ t, u = Value.float y t from rx); cases q; exact kia_one PySem.W.kitx_float I.DP True.intro e (fun z => nomatch z) h
  | @lst a xs ea =>
    cases (show u = Value.ref a from rx)
    obtain ⟨_, _, n, _, h1⟩ := (show Es X.prog X.w H s.heap a (.lst xs) from I.hok a _ ea)
    exact kia_one PySem.W.kitx_list I.DP ⟨_, h1, rfl⟩ e (fun z => nomatch z) h
  | @frz a ob xs ea =>
    cases (show u = Value.ref a from rx)
    obtain ⟨_, _, _, n, _, h1⟩ := (show Es X.prog X.w H s.heap a (.frz ob (.lst xs)) from I.hok a _ ea)
    exact kia_one PySem.W.kitx_list I.DP ⟨_, h1, rfl⟩ e (fun z => nomatch z) h
  | @tup a xs ea =>
    cases (show u = Value.ref a from rx)
    obtain ⟨_, _, _, p⟩ := (show Es X.prog X.w H s.heap a (.tup xs) from I.hok a _ ea)
    obtain ⟨o, h1, h2, _⟩ := p
    exact kia_one PySem.W.kitx_tuple I.DP ⟨o, h1, h2⟩ e (fun z => nomatch z) h
  | @dK a kvs ea =>
    cases (show u = Value.ref a from rx)
    obtain ⟨_, _, vs, _, p⟩ := (show Es X.prog X.w H s.heap a (.dK kvs) from I.hok a _ ea)
    obtain ⟨o, es, ep, h1, h2, _⟩ := p
    exact kia_one PySem.W.kitx_dict I.DP ⟨o, h1, h2.1⟩ e (fun z => nomatch z) h
  | @dT a kvs ea =>
    cases (show u = Value.ref a from rx)
    obtain ⟨_, _, xs, _, o, es, ep, h1, h2, _⟩ := (show Es X.prog X.w H s.heap a (.dT kvs) from I.hok a _ ea)
    exact kia_one PySem.W.kitx_dict I.DP ⟨o, h1, h2.1⟩ e (fun z => nomatch z) h
  | @ins a C dx fs ea cl ha hn htk hm =>
    cases (show u = Value.ref a from rx)
    obtain ⟨mA, O, _⟩ := Xa I.hok ea
    obtain ⟨od, J, _⟩ := O.look
    exact kia_one (PySem.W.kitx_own (cl.get _) cl.hd ha hn htk hm) I.DP J e (fun z => nomatch z) h
end
end L2
namespace L2
open PySem PySem.Spec PyProof.Rows
structure CV (k : Nat) (A : Around) : Prop where
  hd : A.handled = none
  dp : A.depth + 3 * k + 5 < recursionLimit
  un : A.units + 16 * k + 200 < cLine
theorem CV.mono {j k : Nat} {A : Around} (r : CV k A) (h : j ≤ k) : CV j A := ⟨r.hd, by have := r.dp; omega, by have := r.un; omega⟩
theorem CV.deeper {k : Nat} {A : Around} (r : CV (k + 1) A) (env : Env) : CV k (A.deeper env) :=
  ⟨r.hd, by have := r.dp; show A.depth + 1 + 3 * k + 5 < _; omega, by have := r.un; show A.units + 3 + 16 * k + 200 < _; omega⟩
theorem AFI {A : Around} {C : Addr} {us : List Value} {kw : List (Str × Value)} : (A.under (.builtin "type.__call__" ⟨.ref C :: us, kw⟩)).depth = A.depth + 1 := by
  first | rfl | simp [Around.under, Code.weight, Code.isCreation, Code.isGuard, Code.isCaller, Code.frames, Code.isFrame, guardIds]
theorem AIW {A : Around} {C : Addr} {us : List Value} {kw : List (Str × Value)} : (A.under (.builtin "type.__call__" ⟨.ref C :: us, kw⟩)).units = A.units + 1 := by
  first | rfl | simp [Around.under, Code.cUnits, Code.frames, Code.isFrame]
theorem CV.make {k : Nat} {A : Around} (r : CV (k + 1) A) (C : Addr) (us : List Value) (kw : List (Str × Value)) : CV k (A.under (.builtin "type.__call__" ⟨.ref C :: us, kw⟩)) :=
  ⟨r.hd, by have := r.dp; rw [AFI]; omega, by have := r.un; rw [AIW]; omega⟩
theorem CV.depth {k : Nat} {A : Around} (r : CV k A) : A.depth < recursionLimit := by have := r.dp; omega
theorem CV.units {k : Nat} {A : Around} (r : CV k A) : A.units + 64 < cLine := by have := r.un; omega
def Gy : TA := fun _ H Q => Q [] H
def GQ (ta : TE) (tr : TA) : TA := fun σ H Q => ta σ H fun x H1 => tr σ H1 fun xs H2 => Q (x :: xs) H2
section
variable {X : Cx} {e : Expr} {es : List Expr} {te : TE} {t : TA} {pos : Pos}
theorem Iv : PA X [] Gy := fun _ _ _ _ H Q I h => Calls.spliced_nil ⟨[], H, I, .nil, h⟩
theorem Ek (ha : PE X e te) (hr : PA X es t) (hs : starEach (e :: es) X.env = (false, eval e X.env) :: starEach es X.env := by rfl) : PA X (e :: es) (GQ te t) := by
  intro pos pins s σ H Q I h
  rw [hs]
  show wpAny _ _ (spliced ((false, eval e X.env) :: backTo pos (starEach es X.env))) _ _ s
  refine Calls.spliced_cons (Bg (ha pins s σ H _ I h) fun u s1 ⟨x, H1, I1, r1, q1⟩ => ?_)
  exact Bg (hr pos pins s1 σ H1 _ I1 q1) fun us s2 ⟨xs, H2, I2, r2, q2⟩ => ⟨x :: xs, H2, I2, .cons r1 r2, q2⟩
def aZ (t : TA) : TE := fun σ H Q => t σ H fun xs H1 => xs.length ≤ sizeLine ∧ ∀ p, H1 p = none → Q (.ref p) (upd H1 p (.tup xs))
def eO (t : TA) : TE := fun σ H Q => t σ H fun xs H1 => xs.length ≤ sizeLine ∧ ∀ p, H1 p = none → Q (.ref p) (upd H1 p (.lst xs))
theorem qF {x1} (h : PA X es t) : PE X (.Tuple es x1 pos) (aZ t) := by
  intro pins s σ H Q I hq
  refine wpAny_Tuple_spliced (Bg (h pos pins s σ H _ I hq) fun us s1 ⟨xs, H1, I1, r, z, q⟩ => ⟨by rw [← r.length]; exact z, ?_⟩)
  have hf : H1 s1.heap.objs.size = none := I1.hok.fresh (Nat.le_refl _)
  refine ⟨.ref s1.heap.objs.size, upd H1 s1.heap.objs.size (.tup xs), I1.laid (t' := s1.toks) (fun b u e => Heap.get?_push_of_some _ e) (Nat.le_refl _) ?_, rfl, q _ hf⟩
  exact ⟨z, us, r, ⟨_, Heap.get?_push_size _ rfl, rfl, _, rfl⟩⟩
theorem nA (h : PA X es t) : PE X (.List es pos) (eO t) := by
  intro pins s σ H Q I hq
  refine wpAny_List_spliced (Bg (h pos pins s σ H _ I hq) fun us s1 ⟨xs, H1, I1, r, z, q⟩ => ⟨by rw [← r.length]; exact z, ?_⟩)
  have hf : H1 s1.heap.objs.size = none := I1.hok.fresh (Nat.le_refl _)
  refine ⟨.ref s1.heap.objs.size, upd H1 s1.heap.objs.size (.lst xs), I1.laid (t' := s1.toks) (fun b u e => Heap.get?_push_of_some _ e) (Nat.le_refl _) ?_, rfl, q _ hf⟩
  exact ⟨z, us, 0, r, Heap.get?_push_size _ rfl⟩
end
abbrev Sp := List V → Hp → VK → XK → Prop
abbrev Hg := List Env → Hp → Shared → XK → Value → Shared → Prop
structure Oh (P : Program) (w : World) (K : Frag) (mg : Str → Option Value) (base : Heap) (A : Around) (outer : List Env) (s : Shared) (H : Hp) : Prop where
  frames : A.frames = some outer
  mod : Mod K mg base
  bs : ∀ b o, base.get? b = some o → s.heap.get? b = some o ∧ H b = none
  bsz : base.objs.size ≤ s.heap.objs.size
  Hn : s.heap.FunFrames base outer
  frf : ∀ b ∈ DG outer, H b = none
  hok : Ea P w H s.heap
  bare : AllBare s.gens
def CE (outer : List Env) (P : Program) (w : World) (H : Hp) (s : Shared) (Q : VK) (u : Value) (s' : Shared) : Prop :=
  ∃ v H', s'.os = s.os ∧ AllBare s'.gens ∧ Un (DG outer) [] H H' s.heap s'.heap ∧ Ea P w H' s'.heap ∧ RelV v u ∧ Q v H'
def CR (CX : Hg) (outer : List Env) (P : Program) (w : World) (H : Hp) (s : Shared) (Q : VK) (E : XK) (r : Result) (s' : Shared) : Prop :=
  match r with
  | .ok (.ret u) => CE outer P w H s Q u s'
  | .ok _ => False
  | .error e => CX outer H s E e s'
structure Ei (P : Program) (w : World) (K : Frag) (mg : Str → Option Value) (base : Heap) (CX : Hg) (k : Nat) (f : Addr) (fd : FuncData) (ps : List Str) (sp : Sp) : Prop where
  len : ∀ vs H Q E, sp vs H Q E → vs.length = ps.length
  run : ∀ (A : Around) (outer : List Env) (s : Shared) (H : Hp) (args : Args) (us : List Value) (vs : List V) (Q : VK) (E : XK), CV k A → Oh P w K mg base A outer s H → BindsTo s fd args (ps.zip us) → Vals vs us → sp vs H Q E →
    codeAny (model P w) A (.call (.ref f) args) (CR CX outer P w H s Q E) s
theorem Ei.mono {P : Program} {w : World} {K : Frag} {mg : Str → Option Value} {base : Heap} {CX : Hg} {j k : Nat} {f : Addr} {fd : FuncData} {ps : List Str} {sp : Sp} (F : Ei P w K mg base CX j f fd ps sp) (h : j ≤ k) :
    Ei P w K mg base CX k f fd ps sp := ⟨F.len, fun A outer s H args us vs Q E hr => F.run A outer s H args us vs Q E (hr.mono h)⟩
theorem Ei.imp {P : Program} {w : World} {K : Frag} {mg : Str → Option Value} {base : Heap} {CX : Hg} {k : Nat} {f : Addr} {fd : FuncData} {ps : List Str} {sp sp' : Sp} (F : Ei P w K mg base CX k f fd ps sp) (h : ∀ vs H Q E, sp' vs H Q E → sp vs H Q E) : Ei P w K mg base CX k f fd ps sp' :=
  ⟨fun vs H Q E q => F.len vs H Q E (h _ _ _ _ q), fun A outer s H args us vs Q E hr he hb hv hs => F.run A outer s H args us vs Q E hr he hb hv (h _ _ _ _ hs)⟩
theorem Oh.make {P : Program} {w : World} {K : Frag} {mg : Str → Option Value} {base : Heap} {A : Around} {outer : List Env} {s : Shared} {H : Hp} (e : Oh P w K mg base A outer s H) (C : Addr) (us : List Value) (kw : List (Str × Value)) :
    Oh P w K mg base (A.under (.builtin "type.__call__" ⟨.ref C :: us, kw⟩)) outer s H := ⟨by first | exact e.frames | (simpa [Around.under, Code.envs, Code.isFrame, pushEnvs] using e.frames), e.mod, e.bs, e.bsz, e.Hn, e.frf, e.hok, e.bare⟩
section
variable {X : Cx} {pins : List (Addr × Obj)} {σ : St} {H : Hp} {s s' : Shared}
theorem Inv.j8 (I : Inv X pins σ H s) : Oh X.prog X.w X.K X.mg X.base X.A X.stack s H :=
  ⟨I.ok.frames, I.ok.mod, I.bs, Nat.le_trans I.ok.bsz I.sz, I.stack, I.Zd, I.hok, I.bare⟩
theorem Inv.after {Q : VK} {u : Value} (I : Inv X pins σ H s) (h : CE X.stack X.prog X.w H s Q u s') : EP X pins σ Q u s' := by
  obtain ⟨v, H', os, bare, un, hok, r, q⟩ := h
  obtain ⟨hh, g, d, t, os'⟩ := s'
  obtain rfl : os' = s.os := os
  exact ⟨v, H', I.call (h' := hh) (g' := g) (d' := d) (t' := t) (ch := []) un hok bare (fun b z => absurd z (by simp)), r, q⟩
end
def Qz (sp : Sp) (dvs : List V) (E : XK) (t : TA) : TE := fun σ H Q => t σ H fun vs H1 => sp (vs ++ dvs) H1 Q E
def OD (C : Addr) (m : Str) (sp : Sp) (dvs : List V) (E : XK) (ta : TE) (t : TA) : TE := fun σ H Q => ta σ H fun x H1 => ∃ a dx fs, x = .ref a ∧ H1 a = some (.ins C dx fs) ∧ fs.lookup m = none ∧
  t σ H1 fun vs H2 => sp (x :: (vs ++ dvs)) H2 Q E
def fB (C : Addr) (sp : Sp) (dvs : List V) (E : XK) (t : TA) : TE := fun σ H Q => t σ H fun vs H1 => ∀ x dx, H1 x = none → H1 dx = none → dx ≠ x →
  sp (.ref x :: (vs ++ dvs)) (upd (upd H1 dx (.own x)) x (.ins C dx [])) (fun v H2 => v = .non ∧ Q (.ref x) H2) E
def Binds (K : Frag) (fd : FuncData) (ps : List Str) (ds : List Value) : Prop :=
  ∀ (s : Shared) (us : List Value), K.In s.heap → (us ++ ds).length = ps.length → BindsTo s fd ⟨us, []⟩ (ps.zip (us ++ ds))
theorem Binds.all {K : Frag} {fd : FuncData} {ps : List Str} (h : ∀ us : List Value, us.length = ps.length → bindArgs fd ⟨us, []⟩ = pure (ps.zip us)) : Binds K fd ps [] := fun s us _ hl => by
  rw [List.append_nil] at hl ⊢
  exact .of_eq (h us hl)
def Passes (CX : Hg) (X : Cx) (E : XK) : Prop := ∀ (pins : List (Addr × Obj)) (σ : St) (H : Hp) (s : Shared) (e : Value) (s' : Shared), Inv X pins σ H s → CX X.stack H s E e s' → X.xe e s'
section
variable {X : Cx} {CX : Hg} {k : Nat} {f C : Addr} {fd : FuncData} {ps : List Str} {sp : Sp} {dvs : List V} {ds : List Value} {E : XK} {x m : Str} {p pos apos : Pos} {e o : Expr} {es : List Expr} {ta : TE} {t : TA}
theorem Vb {pins : List (Addr × Obj)} {σ : St} {H : Hp} {s : Shared} {Q : VK} {us : List Value} {vs : List V} (F : Ei X.prog X.w X.K X.mg X.base CX k f fd ps sp) (hr : CV k X.A) (hb : Binds X.K fd ps ds) (hd : Vals dvs ds) (hx : Passes CX X E) (I : Inv X pins σ H s) (r : Vals vs us) (h : sp (vs ++ dvs) H Q E) : wpAny (model X.prog X.w) X.A (call (.ref f) us) (EP X pins σ Q) X.xe s := by
  have r2 : Vals (vs ++ dvs) (us ++ ds) := r.append hd
  have hl : (us ++ ds).length = ps.length := by rw [← r2.length]; exact F.len _ _ _ _ h
  refine wpAny_call (codeAny_mono (F.run X.A X.stack s H ⟨us, []⟩ (us ++ ds) (vs ++ dvs) Q E hr I.j8 (hb s us I.DP hl) r2 h) fun r s' hq => ?_)
  cases r with
  | error e => exact hx pins σ H s e s' I hq
  | ok fl =>
    cases fl with
    | ret u => exact I.after hq
    | next => exact False.elim hq
    | brk => exact False.elim hq
    | cont => exact False.elim hq
theorem AIu (F : Ei X.prog X.w X.K X.mg X.base CX k f fd ps sp) (hr : CV k X.A) (hg : Gl X x) (hm : X.mg x = some (.ref f)) (hk : keepIn X.K (.ref f) = true) (hb : Binds X.K fd ps ds) (hd : Vals dvs ds) (hx : Passes CX X E) (ha : PA X (e :: es) t) (hdb : (x == ("__debug__" : Str)) = false := by decide) (he : starEach (e :: es) X.env = (false, eval e X.env) :: starEach es X.env := by rfl) (hpl : (backTo pos (starEach es X.env)).any (·.1) = false := by rfl) :
    PE X (.Call (.Name x p) (e :: es) [] pos) (Qz sp dvs E t) := by
  intro pins s σ H Q I h
  refine wpAny_Call_Name_kw (RG I hg hm ?_ hdb)
  refine PySem.W.callWith_K (h₀ := X.base) I.ok.mod.kin hk (Bg (ha pos pins s σ H _ I h) fun us s1 ⟨vs, H1, I1, r, q⟩ => ⟨I1.DP, ?_⟩) he hpl
  exact Vb F hr hb hd hx I1 r q
theorem qM {pl : Sem Bool} (he : PE X o ta) (c : Gq X.K C) (hm : Meth X.K C m f) (F : Ei X.prog X.w X.K X.mg X.base CX k f fd ps sp) (hr : CV k X.A) (hb : Binds X.K fd ps ds) (hd : Vals dvs ds) (hx : Passes CX X E) (ha : PA X (e :: es) t) (hst : starEach (e :: es) X.env = (false, eval e X.env) :: starEach es X.env := by rfl) (hpl : (backTo pos (starEach es X.env)).any (·.1) = false := by rfl) (ht : eval (.Call (.Attribute o m apos) (e :: es) [] pos) X.env = (do
      let ov ← eval o X.env
      standAt apos.atName
      let (f, first) ← holding [ov] (getMethod ov m pl)
      callWith pos f first (backTo pos (starEach (e :: es) X.env)) (backToKw pos (keywordEach [] X.env))) := by rfl) :
    PE X (.Call (.Attribute o m apos) (e :: es) [] pos) (OD C m sp dvs E ta t) := by
  intro pins s σ H Q I h
  refine PySem.W.methodCall_KW (pl := pl) (Bg (he pins s σ H _ I h) fun u s1 ⟨x, H1, I1, rx, a, dx, fs, ex, ea, l, q⟩ => ?_) ht
  subst ex
  obtain rfl : u = Value.ref a := rx
  refine aQ I1 ea c hm l ?_
  refine PySem.W.callWith_K (first := [.ref a]) (h₀ := X.base) I.ok.mod.kin hm.kp (Bg (ha pos pins s1 σ H1 _ I1 q) fun us s2 ⟨vs, H2, I2, r, q2⟩ => ⟨I2.DP, ?_⟩) hst hpl
  exact Vb (us := .ref a :: us) (vs := .ref a :: vs) F hr hb hd hx I2 (.cons rfl r) q2
theorem pW {pl : Sem Bool} (he : PE X o ta) (c : Gq X.K C) (hm : Meth X.K C m f) (F : Ei X.prog X.w X.K X.mg X.base CX k f fd ps sp) (hr : CV k X.A) (hb : Binds X.K fd ps ds) (hd : Vals dvs ds) (hx : Passes CX X E) (ht : eval (.Call (.Attribute o m apos) [] [] pos) X.env = (do
      let ov ← eval o X.env
      standAt apos.atName
      let (f, first) ← holding [ov] (getMethod ov m pl)
      callWith pos f first (backTo pos (starEach [] X.env)) (backToKw pos (keywordEach [] X.env))) := by rfl) :
    PE X (.Call (.Attribute o m apos) [] [] pos) (OD C m sp dvs E ta Gy) := by
  intro pins s σ H Q I h
  refine PySem.W.methodCall_KW (pl := pl) (Bg (he pins s σ H _ I h) fun u s1 ⟨x, H1, I1, rx, a, dx, fs, ex, ea, l, q⟩ => ?_) ht
  subst ex
  obtain rfl : u = Value.ref a := rx
  refine aQ I1 ea c hm l ?_
  exact PySem.W.callWith_K0 (first := [.ref a]) I1.DP hm.kp (Vb (us := [.ref a]) (vs := [.ref a]) F hr hb hd hx I1 (.cons rfl .nil) q)
structure Mk (K : Frag) (C f : Addr) : Prop where
  makes : makesIn K C = true
  init : findIn K (.ref C) "__init__" = some (some (.ref f))
  fn : PySem.W.isFn K (.ref f) = true
  kp : keepIn K (.ref C) = true
theorem AAh {pins : List (Addr × Obj)} {σ : St} {H : Hp} {s : Shared} {Q : VK} {us : List Value} {vs : List V} (M : Mk X.K C f) (F : Ei X.prog X.w X.K X.mg X.base CX k f fd ps sp) (hr : CV (k + 1) X.A) (hb : Binds X.K fd ps ds) (hd : Vals dvs ds) (hx : Passes CX X E) (I : Inv X pins σ H s) (r : Vals vs us) (h : ∀ x dx, H x = none → H dx = none → dx ≠ x → sp (.ref x :: (vs ++ dvs)) (upd (upd H dx (.own x)) x (.ins C dx [])) (fun v H2 => v = .non ∧ Q (.ref x) H2) E) :
    wpAny (model X.prog X.w) X.A (call (.ref C) us) (EP X pins σ Q) X.xe s := by
  have hq := h (s.heap.objs.size + 1) s.heap.objs.size (I.hok.fresh (Nat.le_succ _)) (I.hok.fresh (Nat.le_refl _)) (Nat.ne_of_lt (Nat.lt_succ_self _))
  have I2 := Inv.made (C := C) I
  have r2 : Vals (V.ref (s.heap.objs.size + 1) :: (vs ++ dvs)) (Value.ref (s.heap.objs.size + 1) :: (us ++ ds)) := .cons rfl (r.append hd)
  have hl : (Value.ref (s.heap.objs.size + 1) :: us ++ ds).length = ps.length := by
    have e := r2.length
    rw [F.len _ _ _ _ hq] at e
    exact e.symm
  refine wpAny_call (AJI (f := f) I.DP M.makes M.init (beq_iff_eq.mp M.fn) (codeAny_mono (F.run _ X.stack _ _ ⟨Value.ref (s.heap.objs.size + 1) :: us, []⟩ (Value.ref (s.heap.objs.size + 1) :: (us ++ ds)) _ _ E (hr.make C us [])
    (I2.j8.make C us []) (hb _ (Value.ref (s.heap.objs.size + 1) :: us) I2.DP hl) r2 hq) fun r s' hq' => ?_))
  cases r with
  | error e => exact hx pins σ _ _ e s' I2 hq'
  | ok fl =>
    cases fl with
    | ret u =>
      obtain ⟨v, H', I3, rv, ev, q3⟩ := I2.after hq'
      subst ev
      exact ⟨rv, ⟨V.ref (s.heap.objs.size + 1), H', I3, rfl, q3⟩⟩
    | next => exact False.elim hq'
    | brk => exact False.elim hq'
    | cont => exact False.elim hq'
theorem AKE (M : Mk X.K C f) (F : Ei X.prog X.w X.K X.mg X.base CX k f fd ps sp) (hr : CV (k + 1) X.A) (hg : Gl X x) (hm : X.mg x = some (.ref C)) (hb : Binds X.K fd ps ds) (hd : Vals dvs ds) (hx : Passes CX X E) (ha : PA X (e :: es) t) (hdb : (x == ("__debug__" : Str)) = false := by decide) (he : starEach (e :: es) X.env = (false, eval e X.env) :: starEach es X.env := by rfl) (hpl : (backTo pos (starEach es X.env)).any (·.1) = false := by rfl) :
    PE X (.Call (.Name x p) (e :: es) [] pos) (fB C sp dvs E t) := by
  intro pins s σ H Q I h
  refine wpAny_Call_Name_kw (RG I hg hm ?_ hdb)
  refine PySem.W.callWith_K (h₀ := X.base) I.ok.mod.kin M.kp (Bg (ha pos pins s σ H _ I h) fun us s1 ⟨vs, H1, I1, r, q⟩ => ⟨I1.DP, ?_⟩) he hpl
  exact AAh M F hr hb hd hx I1 r q
end
section
variable {X : Cx} {CX : Hg} {k : Nat} {f C : Addr} {fd : FuncData} {ps ks : List Str} {sp : Sp} {E : XK} {x m : Str} {p pos apos kpos : Pos} {e o : Expr} {es : List Expr} {kws : List Keyword} {te ta : TE} {t tk : TA} {nm : Option Str}
structure AKd (K : Frag) (fd : FuncData) (ps ks : List Str) (g : List Value → List Value → List Value) (gV : List V → List V → List V) : Prop where
  to : ∀ (s : Shared) (us ws : List Value), K.In s.heap → (g us ws).length = ps.length → BindsTo s fd ⟨us, ks.zip ws⟩ (ps.zip (g us ws))
  rel : ∀ {vs : List V} {us : List Value} {zs : List V} {ws : List Value}, Vals vs us → Vals zs ws → Vals (gV vs zs) (g us ws)
variable {g : List Value → List Value → List Value} {gV : List V → List V → List V}
end
structure Bk (N P : List Str) (sc : Scope) : Prop where
  kind : sc.kind = .function
  co : sc.isCoroutine = false
  gen : sc.isGenerator = false
  nd : N.Nodup
  pre : N.take P.length = P
  par : ∀ x ∈ P, sc.names.lookup x = some .local ∨ sc.names.lookup x = some .cell
  Jh : ∀ y ∈ sc.names, y.2 ≠ .free
theorem sI {kindOf : Str → Option NameKind} {x : Str} : ∀ {binds : List (Str × Value)} {m : Str → Option Value}, (∀ v, (x, v) ∉ binds) → bindL kindOf binds m x = m x
  | [], _, _ => rfl
  | (n, v) :: r, m, h => by
    unfold bindL
    rw [sI fun w hw => h w (BZ hw)]
    split
    · have : x ≠ n := by rintro rfl; exact h v CW
      simp [this]
    · rfl
theorem uQ {kindOf : Str → Option NameKind} {x : Str} : ∀ {binds : List (Str × Value)} {m : Str → Option Value}, (∀ v, (x, v) ∉ binds) → bindC kindOf binds m x = m x
  | [], _, _ => rfl
  | (n, v) :: r, m, h => by
    unfold bindC
    rw [uQ fun w hw => h w (BZ hw)]
    split
    · rfl
    · have : x ≠ n := by rintro rfl; exact h v CW
      simp [this]
theorem vW {kindOf : Str → Option NameKind} {x : Str} {v : Value} : ∀ {P : List Str} {vs : List Value} {i : Nat} {m : Str → Option Value}, P.Nodup → P[i]? = some x → vs[i]? = some v → kindOf x = some .local →
    bindL kindOf (P.zip vs) m x = some v
  | [], _, _, _, _, h, _, _ => by simp at h
  | _ :: _, [], _, _, _, _, h, _ => by simp at h
  | p :: P, w :: vs, 0, m, nd, h1, h2, hk => by
    simp at h1 h2; subst h1; subst h2
    show bindL kindOf ((p, w) :: P.zip vs) m p = _
    unfold bindL
    rw [sI fun v hv => (List.nodup_cons.mp nd).1 (List.of_mem_zip hv).1, if_pos hk]
    simp
  | p :: P, w :: vs, i + 1, m, nd, h1, h2, hk => by
    show bindL kindOf ((p, w) :: P.zip vs) m x = _
    unfold bindL
    exact vW (i := i) (List.nodup_cons.mp nd).2 (by simpa using h1) (by simpa using h2) hk
theorem nZ {kindOf : Str → Option NameKind} {x : Str} {v : Value} : ∀ {P : List Str} {vs : List Value} {i : Nat} {m : Str → Option Value}, P.Nodup → P[i]? = some x → vs[i]? = some v → kindOf x ≠ some .local →
    bindC kindOf (P.zip vs) m x = some v
  | [], _, _, _, _, h, _, _ => by simp at h
  | _ :: _, [], _, _, _, _, h, _ => by simp at h
  | p :: P, w :: vs, 0, m, nd, h1, h2, hk => by
    simp at h1 h2; subst h1; subst h2
    show bindC kindOf ((p, w) :: P.zip vs) m p = _
    unfold bindC
    rw [uQ fun v hv => (List.nodup_cons.mp nd).1 (List.of_mem_zip hv).1, if_neg hk]
    simp
  | p :: P, w :: vs, i + 1, m, nd, h1, h2, hk => by
    show bindC kindOf ((p, w) :: P.zip vs) m x = _
    unfold bindC
    exact nZ (i := i) (List.nodup_cons.mp nd).2 (by simpa using h1) (by simpa using h2) hk
def start (N : List Str) (vs : List V) : St := vs.map some ++ List.replicate (N.length - vs.length) none
def Dh (CX : Hg) (P : Program) (w : World) (K : Frag) (mg : Str → Option Value) (base : Heap) (N : List Str) (qual : Str) (scope : Scope) (f : Addr) (cd : Value) (A : Around) (outer : List Env) (s : Shared) (H : Hp) (E : XK) : Cx where
  prog := P
  w := w
  K := K
  mg := mg
  base := base
  A := A.deeper (envOfC qual scope s.heap.objs.size f cd)
  N := N
  s₀ := s
  H₀ := H
  env := envOfC qual scope s.heap.objs.size f cd
  outer := outer
  stack := envOfC qual scope s.heap.objs.size f cd :: outer
  ex := []
  calm := true
  fn := fun _ => true
  pn := []
  xe := fun e s' => wpAny (model P w) (A.deeper (envOfC qual scope s.heap.objs.size f cd)) (leaving (envOfC qual scope s.heap.objs.size f cd) e) (fun _ s'' => CX outer H s E e s'') (fun e' s'' => CX outer H s E e' s'') s'
theorem yG {sc : Scope} {n : Nat} {x : Str} (h : sc.names.lookup x = some .cell) : ∃ c, (cellsFrom n sc.names []).lookup x = some c := by
  have q := PySem.W.cellsFrom_some sc.names n [] (.inl h)
  exact Option.isSome_iff_exists.mp q
theorem AEt {CX : Hg} {P : Program} {w : World} {K : Frag} {mg : Str → Option Value} {base : Heap} {N ps : List Str} {qual : Str} {scope : Scope} {f : Addr} {cd : Value} {A : Around} {outer : List Env} {s s1 : Shared} {H : Hp} {E : XK} {us : List Value} {vs : List V} (S : Bk N ps scope) (hd : A.handled = none) (e0 : Oh P w K mg base A outer s H) (hl : vs.length = ps.length) (r : Vals vs us) (x : InCallC s s.heap.objs.size (bindL (envOfC qual scope s.heap.objs.size f cd).kindOf (ps.zip us) fun _ => none) (cellsFrom (s.heap.objs.size + 1) scope.names []) (bindC (envOfC qual scope s.heap.objs.size f cd).kindOf (ps.zip us) fun _ => none) s1) :
    Inv (Dh CX P w K mg base N qual scope f cd A outer s H E) [] (start N vs) H s1 := by
  have hpl : ps.length ≤ N.length := by have := congrArg List.length S.pre; rw [List.length_take] at this; omega
  obtain ⟨h1, tk, rfl, hk⟩ := x.done
  have noA : ∀ b : Addr, b ∉ (Dh CX P w K mg base N qual scope f cd A outer s H E).ex := fun b z => absurd (show b ∈ ([] : List Addr) from z) (by simp)
  refine ⟨⟨e0.mod, S.kind, rfl, rfl, Nat.le_refl _, fun y z c h1 h2 => ?_, fun y hy => ?_, fun y c _ h => ?_, fun _ => hd, Around.frames_deeper e0.frames, .inr ⟨rfl, rfl⟩, fun b z => absurd z (noA b), e0.bs, e0.bsz, fun b _ _ => noA b, fun b z => absurd z (noA b), e0.Hn, e0.frf⟩,
    rfl, e0.bare, Un.kept hk, ⟨_, x.toInCall.ns, fun i y v h1 h2 h3 => ?_⟩, fun y c h => ⟨_, x.cell y c h⟩, e0.hok.fresh (Nat.le_refl _), fun y c h => ?_, fun p hp => absurd (show p ∈ ([] : List (Addr × Obj)) from hp) (by simp), e0.hok.kept hk, ?_⟩
  · exact name_of_addr x.apart (PySem.mem_of_lookup h1) (PySem.mem_of_lookup h2)
  · have hy : scope.names.lookup y = some .cell ∨ scope.names.lookup y = some .free := hy
    rcases hy with hy | hy
    · exact yG hy
    · exact absurd rfl (S.Jh _ (PySem.mem_of_lookup hy))
  · exact Nat.le_of_lt (x.above y c (PySem.mem_of_lookup h))
  · have hi : i < vs.length := by
      unfold start at h2
      by_cases hi : i < vs.length
      · exact hi
      · rw [List.getElem?_append_right (by simpa using hi)] at h2
        rw [List.getElem?_replicate] at h2
        split at h2 <;> cases h2
    have ha : vs[i]? = some v := by
      unfold start at h2
      rw [List.getElem?_append_left (by simpa using hi), List.getElem?_map] at h2
      cases e : vs[i]? with
      | none => rw [e] at h2; cases h2
      | some a => rw [e] at h2; cases h2; rfl
    obtain ⟨u, hu, rv⟩ := r.get ha
    have hp : ps[i]? = some y := by
      rw [← S.pre, List.getElem?_take_of_lt (by omega)]; exact h1
    have ndP : ps.Nodup := by rw [← S.pre]; exact S.nd.sublist (List.take_sublist _ _)
    refine ⟨u, rv, ?_⟩
    rcases S.par y (List.mem_of_getElem? hp) with k | k
    · exact .inl ⟨k, vW ndP hp hu k⟩
    · obtain ⟨c, e⟩ := yG (n := s.heap.objs.size + 1) k
      refine .inr ⟨.inl k, c, e, ?_⟩
      have q := x.cell y c e
      rw [nZ ndP hp hu (by show scope.names.lookup y ≠ _; rw [k]; decide)] at q
      exact q
  · exact e0.hok.fresh (Nat.le_of_lt (x.above y c (PySem.mem_of_lookup h)))
  · unfold start
    show _ = N.length
    rw [List.length_append, List.length_map, List.length_replicate]
    omega
theorem Wb {CX : Hg} {P : Program} {w : World} {K : Frag} {mg : Str → Option Value} {base : Heap} {k : Nat} {f : Addr} {name qual : Str} {params : Arguments} {body : List Stmt} {scope : Scope} {dV kV doc pm cdv ct oc : Value} {an od : Option Addr} {osl : Array (Option Value)} {N ps : List Str} {sp : Sp} (lk : K.lookup f = some ⟨oc, od, .func (fnOf name qual params body scope dV kV doc pm an cdv ct), osl⟩) (hcd : codeIn K cdv qual = true) (S : Bk N ps scope) (len : ∀ vs H Q E, sp vs H Q E → vs.length = ps.length) (hbody : ∀ (A : Around) (outer : List Env) (s : Shared) (H : Hp) (vs : List V) (Q : VK) (E : XK), CV k (A.deeper (envOfC qual scope s.heap.objs.size f cdv)) → sp vs H Q E →
      ∃ t, Ez (Dh CX P w K mg base N qual scope f cdv A outer s H E) body t ∧ t { nx := fun _ H' => Q .non H', rt := Q } (start N vs) H) :
    Ei P w K mg base CX (k + 1) f (fnOf name qual params body scope dV kV doc pm an cdv ct) ps sp := by
  refine ⟨len, fun A outer s H args us vs Q E hr e0 hb r hsp => ?_⟩
  have hl := len _ _ _ _ hsp
  have KX : K.In s.heap := e0.mod.kin.keeps fun b o e => (e0.bs b o e).1
  have lim : s.heap.NoLimit := e0.mod.nolimit.keeps fun b o e => (e0.bs b o e).1
  have hkind : ∀ y ∈ ps.zip us, scope.names.lookup y.1 = some .local ∨ (scope.names.lookup y.1 = some .cell ∧ ((cellsFrom (s.heap.objs.size + 1) scope.names []).lookup y.1).isSome = true) := fun ⟨n, v⟩ hy => by
    rcases S.par n (List.of_mem_zip hy).1 with q | q
    · exact .inl q
    · exact .inr ⟨q, PySem.W.cellsFrom_some _ _ _ (.inl q)⟩
  refine codeAny_call_function hr.depth (KX _ _ lk) rfl S.co S.gen rfl (PySem.W.codeRec_of KX hcd) (hb _ _ _ _ ?_)
  refine wpAny_newFunctionEnv_cells S.kind hkind fun env he s1 x => ?_
  subst he
  refine ⟨lim.keeps x.toInCall.keep, codeAny_func ?_⟩
  obtain ⟨t, ht, hq⟩ := hbody A outer s H vs Q E (hr.deeper _) hsp
  have I : Inv (Dh CX P w K mg base N qual scope f cdv A outer s H E) [] (start N vs) H s1 := AEt S hr.hd e0 hl r x
  refine wpAny_mono (ht [] s1 (start N vs) H _ I hq) (fun fl s' hs => ?_) fun e s' hs => hs
  have fin : ∀ {σ' : St} {H' : Hp} {v : V} {u : Value}, Inv (Dh CX P w K mg base N qual scope f cdv A outer s H E) [] σ' H' s' → RelV v u → Q v H' → CE outer P w H s Q u s' :=
    fun {σ' H' v u} J rv q => ⟨v, H', J.os, J.bare, J.base, J.hok, rv, q⟩
  cases fl with
  | ret u =>
    obtain ⟨v, σ', H', J, rv, q⟩ := hs
    exact fin J rv q
  | next =>
    obtain ⟨σ', H', J, q⟩ := hs
    exact fin (v := V.non) (u := Value.none) J rfl q
  | brk =>
    obtain ⟨_, _, _, q⟩ := hs
    exact False.elim q
  | cont =>
    obtain ⟨_, _, _, q⟩ := hs
    exact False.elim q
end L2
namespace L2
open PySem PySem.Spec PyProof.Rows
section
variable {X : Cx} {x : Str} {p pos : Pos} {e : Expr} {es : List Expr} {t : TA} {id T : String} {r : List V → Hp → VK → Prop}
def Lg (r : List V → Hp → VK → Prop) (t : TA) : TE := fun σ H Q => t σ H fun vs H1 => r vs H1 Q
theorem RJ (hc : Hj X (.builtin id) r) (hg : Gl X x) (hm : X.mg x = none) (hv : bootBuiltins x = some (.builtin id)) (ha : PA X (e :: es) t) (hn : x ≠ "__name__" := by decide) (hdb : (x == ("__debug__" : Str)) = false := by decide)
    (he : starEach (e :: es) X.env = (false, eval e X.env) :: starEach es X.env := by rfl) (hpl : (backTo pos (starEach es X.env)).any (·.1) = false := by rfl) : PE X (.Call (.Name x p) (e :: es) [] pos) (Lg r t) := by
  intro pins s σ H Q I h
  refine wpAny_Call_Name_kw (Ox I hg hm hv ?_ hn hdb)
  exact PyProof.Rows.callWith_builtin1 (Bg (ha pos pins s σ H _ I h) fun us s1 ⟨vs, H1, I1, r1, q1⟩ => hc pins s1 σ H1 vs us Q I1 r1 q1) he hpl
theorem X8 (hc : Hj X (.type T) r) (hg : Gl X x) (hm : X.mg x = none) (hv : bootBuiltins x = some (.type T)) (ha : PA X (e :: es) t) (hn : x ≠ "__name__" := by decide) (hdb : (x == ("__debug__" : Str)) = false := by decide)
    (he : starEach (e :: es) X.env = (false, eval e X.env) :: starEach es X.env := by rfl) (hpl : (backTo pos (starEach es X.env)).any (·.1) = false := by rfl) : PE X (.Call (.Name x p) (e :: es) [] pos) (Lg r t) := by
  intro pins s σ H Q I h
  refine wpAny_Call_Name_kw (Ox I hg hm hv ?_ hn hdb)
  exact PyProof.Rows.callWith_type1 (Bg (ha pos pins s σ H _ I h) fun us s1 ⟨vs, H1, I1, r1, q1⟩ => hc pins s1 σ H1 vs us Q I1 r1 q1) he hpl
end
end L2
namespace HT
open PySem PyProof.Rows
section
open PySem.SeqAt
open PySem.AutoSeq1 (wpAny_loadPart')
open PySem.MeetsSeq PySem.MeetsSeq2 PySem.MeetsSeq3
end
section
variable {prog : Program} {w : World} {A : Around} {E : Value → Shared → Prop} {s : Shared}
def De (n d : Nat) : Option Int → Nat
  | none => d
  | some v => if v < 0 then (v + (n : Int)).toNat else min v.toNat n
end
end HT
namespace L2
open PySem PySem.Spec PyProof.Rows
abbrev TO := St → Hp → (Option Int → Hp → Prop) → Prop
def PO (X : Cx) (e : Option Expr) (t : TO) : Prop :=
  ∀ (pins : List (Addr × Obj)) (s : Shared) (σ : St) (H : Hp) (Q : Option Int → Hp → Prop), Inv X pins σ H s → t σ H Q →
    wpAny (model X.prog X.w) X.A (evalPart e X.env) (fun u s' => ∃ o H', Inv X pins σ H' s' ∧ IsPart u o ∧ Q o H') X.xe s
def qC : TO := fun _ H Q => Q none H
def mX (t : TE) : TO := fun σ H Q => t σ H fun x H1 => ∃ i, x = .int i ∧ Q (some i) H1
theorem intsAre_of {ns : List Int} : ∀ {us : List Value}, Vals (ns.map V.int) us → IntsAre us ns := by
  induction ns with
  | nil => intro us r; rw [List.map_nil] at r; cases r; exact .nil
  | cons n ns ih =>
    intro us r
    rw [List.map_cons] at r
    cases r with
    | cons r1 r2 =>
      obtain ⟨t, e⟩ := r1
      subst e
      exact .cons n t (ih r2)
section
variable {X : Cx} {e : Expr} {te : TE} {lo hi : Option Expr} {tl th : TO} {pos p2 : Pos}
theorem AHu : PO X none qC := by
  intro pins s σ H Q I h
  rw [evalPart_none]
  exact wpAny_pure ⟨none, H, I, .none, h⟩
theorem AGL (h : PE X e te) : PO X (some e) (mX te) := by
  intro pins s σ H Q I hw
  rw [evalPart_some]
  refine Bg (h pins s σ H _ I hw) fun u s1 ⟨x, H1, I1, r1, q1⟩ => ?_
  obtain ⟨i, rfl, q⟩ := q1
  obtain ⟨t, rfl⟩ := r1
  exact ⟨some i, H1, I1, .int i t, q⟩
def mY (X : Cx) (r : V → Option Int → Option Int → Hp → VK → Prop) : Prop :=
  ∀ (pins : List (Addr × Obj)) (s : Shared) (σ : St) (H : Hp) (x : V) (v vl vu : Value) (lo hi : Option Int) (sl : Addr) (Q : VK), Inv X pins σ H s → RelV x v → s.heap.IsSliceOf sl vl vu .none → IsPart vl lo → IsPart vu hi → r x lo hi H Q →
    ∃ T id, typeLookup (.type T) "__getitem__" = pure (some (.builtin id)) ∧ s.TypeIs v T ∧ wpAny (model X.prog X.w) X.A (getItem v (.ref sl)) (EP X pins σ Q) X.xe s
def tR (r : V → Option Int → Option Int → Hp → VK → Prop) (te : TE) (tl th : TO) : TE := fun σ H Q => te σ H fun x H1 => tl σ H1 fun l H2 => th σ H2 fun u H3 => r x l u H3 Q
theorem AGb {r : V → Option Int → Option Int → Hp → VK → Prop} (hr : mY X r) (he : PE X e te) (hl : PO X lo tl) (hu : PO X hi th) : PE X (.Subscript e (.Slice lo hi none p2) pos) (tR r te tl th) := by
  intro pins s σ H Q I h
  refine Subscript_ (Bg (he pins s σ H _ I h) fun v s1 ⟨x, H1, I1, r1, q1⟩ => ?_)
  refine wpAny_Slice (Bg (hl pins s1 σ H1 _ I1 q1) fun vl s2 ⟨l, H2, I2, pl, q2⟩ => Bg (hu pins s2 σ H2 _ I2 q2) fun vu s3 ⟨u, H3, I3, pu, q3⟩ => ?_)
  rw [evalPart_none]
  refine wpAny_pure ?_
  have I4 : Inv X pins σ H3 { s3 with heap := s3.heap.push { cls := .type "slice", data := .fields #[vl, vu, .none] } } := I3.kept (t' := s3.toks) fun b ob q => Heap.get?_push_of_some _ q
  obtain ⟨T, id, hT, ht, hg⟩ := hr pins { s3 with heap := s3.heap.push { cls := .type "slice", data := .fields #[vl, vu, .none] } } σ H3 x v vl vu l u s3.heap.objs.size Q I4 r1 (Heap.IsSliceOf.new ..) pl pu q3
  show wpAny (model X.prog X.w) X.A (subscriptTail e (.Slice lo hi none p2) v (.ref s3.heap.objs.size)) (EP X pins σ Q) X.xe { s3 with heap := s3.heap.push { cls := .type "slice", data := .fields #[vl, vu, .none] } }
  exact tail_any (ops := [.ref s3.heap.objs.size, v]) ht hT hg (by with_unfolding_all rfl)
def RT (xs : List V) (lo hi : Option Int) : List V := (xs.drop (HT.De xs.length 0 lo)).take (HT.De xs.length xs.length hi - HT.De xs.length 0 lo)
theorem AJi (xs : List V) (lo hi : Option Int) : (RT xs lo hi).length ≤ xs.length := by
  unfold RT
  rw [List.length_take, List.length_drop]
  omega
end
end L2
namespace L2
open PySem PySem.Spec PyProof.Rows
def GR (n : Nat) (i : Int) : Option Nat := if 0 ≤ i then (if i < n then some i.toNat else none) else if -(n : Int) ≤ i then some (i + n).toNat else none
def DW {α : Type} (xs : List α) (i : Int) : Option α := (GR xs.length i).bind fun j => xs[j]?
theorem uT {n : Nat} {i : Int} {j : Nat} (h : GR n i = some j) : seqIndex? i n = some j ∧ j < n ∧ -(n : Int) ≤ i ∧ i < n := by
  unfold GR at h
  by_cases h0 : 0 ≤ i
  · rw [if_pos h0] at h
    by_cases h1 : i < n
    · rw [if_pos h1] at h
      have e : i.toNat = j := Option.some.inj h
      exact ⟨by rw [seqIndex_of h0 h1, e], by omega, by omega, h1⟩
    · rw [if_neg h1] at h; cases h
  · rw [if_neg h0] at h
    by_cases h1 : -(n : Int) ≤ i
    · rw [if_pos h1] at h
      have e : (i + n).toNat = j := Option.some.inj h
      exact ⟨by rw [seqIndex_neg (by omega) h1, e], by omega, h1, by omega⟩
    · rw [if_neg h1] at h; cases h
theorem jJ {α : Type} {xs : List α} {i : Int} {v : α} (h : DW xs i = some v) : ∃ j, seqIndex? i xs.length = some j ∧ xs[j]? = some v ∧ j < xs.length ∧ -(xs.length : Int) ≤ i ∧ i < xs.length := by
  unfold DW at h
  cases e : GR xs.length i with
  | none => rw [e] at h; cases h
  | some j =>
    rw [e] at h
    obtain ⟨h1, h2, h3, h4⟩ := uT e
    exact ⟨j, h1, h, h2, h3, h4⟩
def V2 (b : Expr) : Prop := ∀ o i, subscripted b false o i = operate [o, i] (getItem o i)
def Kv (X : Cx) (r : R2) : Prop :=
  ∀ (value slice : Expr) (pins : List (Addr × Obj)) (s : Shared) (σ : St) (H : Hp) (x y : V) (v u : Value) (Q : VK), Inv X pins σ H s → RelV x v → RelV y u → r x y H Q →
    subscripted slice false v u = operate [v, u] (getItem v u) → wpAny (model X.prog X.w) X.A (subscriptTail value slice v u) (EP X pins σ Q) X.xe s
def zU (X : Cx) (id : String) (r : V → List V → Hp → VK → Prop) : Prop :=
  ∀ (pins : List (Addr × Obj)) (s : Shared) (σ : St) (H : Hp) (x : V) (xs : List V) (v : Value) (us : List Value) (Q : VK), Inv X pins σ H s → RelV x v → Vals xs us → r x xs H Q →
    wpAny (model X.prog X.w) X.A (call (.builtin id) (v :: us)) (EP X pins σ Q) X.xe s
section
variable {X : Cx} {a b : Expr} {ta tb : TE} {pos : Pos}
theorem Kv.or {r r' : R2} (h : Kv X r) (h' : Kv X r') : Kv X (fun x y H Q => r x y H Q ∨ r' x y H Q) := by
  intro value slice pins s σ H x y v u Q I rx ry q hs
  rcases q with q | q
  · exact h value slice pins s σ H x y v u Q I rx ry q hs
  · exact h' value slice pins s σ H x y v u Q I rx ry q hs
theorem nF {r : R2} (hr : Kv X r) (ha : PE X a ta) (hb : PE X b tb) (hs : V2 b) : PE X (.Subscript a b pos) (JZ r ta tb) := by
  intro pins s σ H Q I h
  exact Subscript_ (ZX ha hb I h fun v u s2 x y H2 I2 rx ry q => hr a b pins s2 σ H2 x y v u Q I2 rx ry q (hs _ _))
def wC (K : Frag) : R2 := fun x y H Q => ∃ p xs i v, x = .ref p ∧ y = .int i ∧ Bl K H p xs ∧ DW xs i = some v ∧ Q v H
def mW (K : Frag) : R2 := fun x y H Q => ∃ p xs i v, x = .ref p ∧ y = .int i ∧ Dt K H p xs ∧ DW xs i = some v ∧ Q v H
def vJ : R2 := fun x y H Q => ∃ z i c, x = .str z ∧ y = .int i ∧ z.length ≤ sizeLine ∧ DW z.cps.toList i = some c ∧ Q (.str ⟨#[c]⟩) H
theorem AGS : Kv X (wC X.K) := by
  intro value slice pins s σ H x y v u Q I rx ry h hs
  obtain ⟨p, xs, i, z, rfl, rfl, hq, he, q⟩ := h
  cases rx
  obtain ⟨t, rfl⟩ := ry
  obtain ⟨its, r, pl, hz⟩ := I.list hq
  obtain ⟨j, h1, h2, h3, h4, h5⟩ := jJ he
  obtain ⟨w, ew, rw'⟩ := r.get h2
  have hl := r.length
  have hn := TY
  have fin : EP X pins σ Q w s := ⟨z, H, I, rw', q⟩
  by_cases h0 : 0 ≤ i
  · have hj : i.toNat = j := by
      rw [seqIndex_of h0 h5] at h1
      exact Option.some.inj h1
    exact item_listR pl.isList h0 (by omega) (by rw [hj]; simpa using ew) fin hs
  · have hj : (i + (its.toArray.size : Int)).toNat = j := by
      rw [seqIndex_neg (by omega) h4] at h1
      rw [List.size_toArray, ← hl]
      exact Option.some.inj h1
    exact subscriptTail_builtinR (x := w) pl.isList.typeIs slot_list_getitem.lookup
      (wpAny_getItem_list_neg (Q := fun r s' => r = w ∧ EP X pins σ Q r s') pl.isList (by omega) (by rw [List.size_toArray] <;> omega) (by omega) (by rw [hj]; simpa using ew) ⟨rfl, fin⟩) hs
theorem AHI : Kv X (mW X.K) := by
  intro value slice pins s σ H x y v u Q I rx ry h hs
  obtain ⟨p, xs, i, z, rfl, rfl, hq, he, q⟩ := h
  cases rx
  obtain ⟨t, rfl⟩ := ry
  obtain ⟨its, r, pl, hz⟩ := I.tuple hq
  obtain ⟨j, h1, h2, h3, h4, h5⟩ := jJ he
  obtain ⟨w, ew, rw'⟩ := r.get h2
  have hl := r.length
  have hn := TY
  have fin : EP X pins σ Q w s := ⟨z, H, I, rw', q⟩
  exact subscriptTail_builtinR (x := w) pl.typeIs slot_tuple_getitem.lookup
    (getItem_tuple (j := j) (Q := fun r s' => r = w ∧ EP X pins σ Q r s') pl (by omega) (by omega) (by rw [List.size_toArray, ← hl]; exact h1) (by simpa using ew) ⟨rfl, fin⟩) hs
theorem AAP : Kv X vJ := by
  intro value slice pins s σ H x y v u Q I rx ry h hs
  obtain ⟨z, i, c, rfl, rfl, hz, he, q⟩ := h
  obtain ⟨t, rfl⟩ := rx
  obtain ⟨t', rfl⟩ := ry
  obtain ⟨j, h1, h2, h3, h4, h5⟩ := jJ he
  have hl : z.cps.toList.length = z.length := by simp [Str.length]
  rw [hl] at h1 h4 h5
  have hn := TY
  exact tail_any (typeIs_str s z t) slot_str_getitem.lookup (getItem_str (c := c) (by
    have e1 : decide (i < -(2 ^ 63 : Int)) = false := decide_eq_false (by omega)
    have e2 : decide (i ≥ 2 ^ 63) = false := decide_eq_false (by omega)
    rw [e1, e2, Bool.or_false]) (by rw [h1]; simpa using h2) ⟨.str ⟨#[c]⟩, H, I.tok _, ⟨_, rfl⟩, q⟩) hs
def Uk (K : Frag) : R2 := fun x y H Q => wC K x y H Q ∨ mW K x y H Q ∨ vJ x y H Q
theorem tM : Kv X (Uk X.K) := AGS.or (AHI.or AAP)
theorem ABg (its : List Value) (n j : Nat) (u : Value) : Obj.mapSeq (·.setIfInBounds j u) { cls := .type "list", data := .seq its.toArray n } = { cls := .type "list", data := .seq (its.set j u).toArray n } := by
  simp [Obj.mapSeq]
theorem Inv.lst {pins : List (Addr × Obj)} {σ : St} {H : Hp} {s : Shared} {p : Addr} {xs : List V} (I : Inv X pins σ H s) (h : H p = some (.lst xs)) :
    ∃ (its : List Value) (n : Nat), Vals xs its ∧ s.heap.get? p = some { cls := .type "list", data := .seq its.toArray n } ∧ xs.length ≤ sizeLine := by
  obtain ⟨z, its, n, r, e⟩ := I.hok p _ h
  exact ⟨its, n, r, e, z⟩
theorem Inv.ADN {pins : List (Addr × Obj)} {σ : St} {H : Hp} {s : Shared} {p : Addr} {xs ys : List V} {its its' : List Value} {n n' : Nat} {f : Obj → Obj} (I : Inv X pins σ H s) (h : H p = some (.lst xs)) (ho : s.heap.get? p = some { cls := .type "list", data := .seq its.toArray n }) (hf : f { cls := .type "list", data := .seq its.toArray n } = { cls := .type "list", data := .seq its'.toArray n' }) (r : Vals ys its') (hz : ys.length ≤ sizeLine) (t : Nat) :
    Inv X pins σ (upd H p (.lst ys)) { s with heap := s.heap.update p f, toks := t } := by
  have e : (s.heap.update p f).get? p = some { cls := .type "list", data := .seq its'.toArray n' } := by
    rw [Heap.get?_update_self f ho (by rw [hf] <;> rfl), hf]
  refine I.write (x := p) (e := p) (by rw [h]; trivial) (.inl rfl) (fun b u hb q => (Heap.get?_update_other _ _ (Ne.symm hb)).trans q) ⟨_, e⟩ ?_
  exact ⟨hz, its', n', r, e⟩
def Qe : V → V → V → Hp → (Hp → Prop) → Prop := fun o i v H Q => ∃ p xs k j, o = .ref p ∧ i = .int k ∧ H p = some (.lst xs) ∧ GR xs.length k = some j ∧ Q (upd H p (.lst (xs.set j v)))
theorem set_list : oM X Qe := by
  intro pins s σ H o i v ov iv u Q I ro ri rv h
  obtain ⟨p, xs, k, j, rfl, rfl, hp, hj, q⟩ := h
  cases ro
  obtain ⟨t, rfl⟩ := ri
  obtain ⟨its, n, r, ho, hz⟩ := I.lst hp
  obtain ⟨h1, h2, h3, h4⟩ := uT hj
  have hl := r.length
  have hn := TY
  have I' : Inv X pins σ (upd H p (.lst (xs.set j v))) { s with heap := s.heap.update p (Obj.mapSeq (·.setIfInBounds j u)) } :=
    I.ADN hp ho (ABg its n j u) (r.set rv j) (by rw [List.length_set]; exact hz) s.toks
  by_cases h0 : 0 ≤ k
  · have hk : k.toNat = j := by
      rw [seqIndex_of h0 h4] at h1
      exact Option.some.inj h1
    exact PySem.W.ki_setAt ho h0 (by omega) (by rw [List.size_toArray, ← hl]; exact h4) (by rw [hk]; exact ⟨_, I', q⟩)
  · have hk : (k + (its.toArray.size : Int)).toNat = j := by
      rw [seqIndex_neg (by omega) h3] at h1
      rw [List.size_toArray, ← hl]
      exact Option.some.inj h1
    exact PySem.W.ki_setBack ho (by omega) (by rw [List.size_toArray, ← hl]; exact h3) (by omega) (by rw [hk]; exact ⟨_, I', q⟩)
theorem AJz (lo hi : Option Int) (n : Nat) : (sliceBounds lo hi none n).1 = ((HT.De n 0 lo : Nat) : Int) ∧ (sliceBounds lo hi none n).2.1 = ((HT.De n n hi : Nat) : Int) ∧ (sliceBounds lo hi none n).2.2 = 1 := by
  refine ⟨?_, ?_, rfl⟩
  · cases lo with
    | none => simp [sliceBounds, HT.De]
    | some i =>
      simp only [sliceBounds, HT.De, Option.getD_none, show (1 : Int) > 0 by decide, if_true]
      by_cases h : i < 0
      · simp only [h, if_true] <;> omega
      · simp only [h, if_false] <;> omega
  · cases hi with
    | none => simp [sliceBounds, HT.De]
    | some i =>
      simp only [sliceBounds, HT.De, Option.getD_none, show (1 : Int) > 0 by decide, if_true]
      by_cases h : i < 0
      · simp only [h, if_true] <;> omega
      · simp only [h, if_false] <;> omega
theorem AJt (its : List Value) (lo hi : Option Int) : slicePick its.toArray lo hi none = ((its.drop (HT.De its.length 0 lo)).take (HT.De its.length its.length hi - HT.De its.length 0 lo)).toArray := by
  obtain ⟨h1, h2, h3⟩ := AJz lo hi its.toArray.size
  unfold slicePick
  rw [h1, h2, h3]
  simp only [sliceRange_one, pick_run, List.size_toArray] <;> rfl
def vY (K : Frag) : V → Option Int → Option Int → Hp → VK → Prop := fun x lo hi H Q => ∃ a xs, x = .ref a ∧ Bl K H a xs ∧ ∀ p, H p = none → Q (.ref p) (upd H p (.lst (RT xs lo hi)))
theorem AGQ : mY X (vY X.K) := by
  intro pins s σ H x v vl vu lo hi sl Q I rx hs pl pu h
  obtain ⟨a, xs, rfl, hx, q⟩ := h
  cases rx
  obtain ⟨its, r, ht, hz⟩ := I.list hx
  have hlen := r.length
  refine ⟨"list", _, slot_list_getitem.lookup, ht.isList.typeIs, ?_⟩
  refine wpAny_getItem_list_slice ht.isList hs pl pu .none (by simp) ?_ (by rw [List.size_toArray] <;> omega)
  rw [AJt, ← hlen]
  refine ⟨.ref s.heap.objs.size, _, I.laid (t' := s.toks) (o := .lst (RT xs lo hi)) (fun b ob q => Heap.get?_push_of_some _ q) (Nat.le_refl _) ?_, rfl, q _ (I.hok.fresh (Nat.le_refl _))⟩
  exact ⟨Nat.le_trans (AJi xs lo hi) hz, _, 0, (r.drop (HT.De xs.length 0 lo)).take (HT.De xs.length xs.length hi - HT.De xs.length 0 lo), Heap.get?_push_size _ rfl⟩
def MT : V → Bool
  | .non => true
  | .bl _ => true
  | .int _ => true
  | .str _ => true
  | _ => false
def Nb : V → V → Bool
  | .non, .non => true
  | .bl a, .bl b => a == b
  | .bl a, .int b => (if a then 1 else 0) == b
  | .int a, .bl b => a == (if b then 1 else 0)
  | .int a, .int b => a == b
  | .str a, .str b => a == b
  | _, _ => false
theorem AGj {A : Around} {s : Shared} {y x : V} {u v : Value} (ry : RelV y u) (rx : RelV x v) (fy : MT y = true) (fx : MT x = true) : SeqAt.EqAt A s u v (Nb y x) := by
  cases y with
  | non =>
    cases ry
    cases x with
    | non => cases rx; exact SeqAt.EqAt.same _
    | bl b => cases rx; exact SeqAt.EqAt.none_bool b
    | int b => obtain ⟨t, rfl⟩ := rx; exact SeqAt.EqAt.none_int b t
    | str b => obtain ⟨t, rfl⟩ := rx; exact SeqAt.EqAt.none_str b t
    | _ => exact absurd (show false = true from fx) Bool.false_ne_true
  | bl a =>
    cases ry
    cases x with
    | non => cases rx; exact SeqAt.EqAt.bool_none a
    | bl b => cases rx; exact SeqAt.EqAt.bool_bool a b
    | int b => obtain ⟨t, rfl⟩ := rx; exact SeqAt.EqAt.bool_int a b t
    | str b => obtain ⟨t, rfl⟩ := rx; exact SeqAt.EqAt.bool_str a b t
    | _ => exact absurd (show false = true from fx) Bool.false_ne_true
  | int a =>
    obtain ⟨t', rfl⟩ := ry
    cases x with
    | non => cases rx; exact SeqAt.EqAt.int_none a t'
    | bl b => cases rx; exact SeqAt.EqAt.int_bool a t' b
    | int b => obtain ⟨t, rfl⟩ := rx; exact SeqAt.EqAt.int_int a t' b t
    | str b => obtain ⟨t, rfl⟩ := rx; exact SeqAt.EqAt.int_str a t' b t
    | _ => exact absurd (show false = true from fx) Bool.false_ne_true
  | str a =>
    obtain ⟨t', rfl⟩ := ry
    cases x with
    | non => cases rx; exact SeqAt.EqAt.str_none a t'
    | bl b => cases rx; exact SeqAt.EqAt.str_bool a t' b
    | int b => obtain ⟨t, rfl⟩ := rx; exact SeqAt.EqAt.str_int a t' b t
    | str b => obtain ⟨t, rfl⟩ := rx; exact SeqAt.EqAt.str_str a t' b t
    | _ => exact absurd (show false = true from fx) Bool.false_ne_true
  | _ => exact absurd (show false = true from fy) Bool.false_ne_true
def LK (x : V) (u : Value) : Bool := match u with
  | .none => Nb .non x
  | .bool b => Nb (.bl b) x
  | .int i _ => Nb (.int i) x
  | .str z _ => Nb (.str z) x
  | _ => false
theorem zL {x y : V} {u : Value} (r : RelV y u) (f : MT y = true) : LK x u = Nb y x := by
  cases y with
  | non => cases r; rfl
  | bl b => cases r; rfl
  | int i => obtain ⟨t, rfl⟩ := r; rfl
  | str z => obtain ⟨t, rfl⟩ := r; rfl
  | _ => exact absurd (show false = true from f) Bool.false_ne_true
theorem eV {x : V} : ∀ {xs : List V} {us : List Value}, Vals xs us → xs.all MT = true → us.any (LK x) = xs.any fun y => Nb y x
  | _, _, .nil, _ => rfl
  | y :: xs, u :: us, .cons r t, f => by
    rw [List.all_cons, Bool.and_eq_true] at f
    rw [List.any_cons, List.any_cons, zL r f.1, eV t f.2]
theorem cY {A : Around} {s : Shared} {x : V} {v : Value} (rx : RelV x v) (fx : MT x = true) : ∀ {xs : List V} {us : List Value}, Vals xs us → xs.all MT = true → ∀ u ∈ us, SeqAt.EqAt A s u v (LK x u)
  | _, _, .nil, _ => fun u hu => by cases hu
  | y :: xs, u :: us, .cons r t, f => fun u' hu => by
    rw [List.all_cons, Bool.and_eq_true] at f
    rcases List.mem_cons.mp hu with rfl | hu
    · rw [zL r f.1]; exact AGj r rx f.1 fx
    · exact cY rx fx t f.2 u' hu
def Xf (x : V) (xs : List V) : Bool := xs.any fun y => Nb y x
def dM (K : Frag) (neg : Bool) : R2 := fun x y H Q => ∃ p xs, y = .ref p ∧ (Bl K H p xs ∨ Dt K H p xs) ∧ MT x = true ∧ xs.all MT = true ∧ Q (.bl (if neg then !Xf x xs else Xf x xs)) H
theorem ADq : EY X (compareOp .NotIn) (dM X.K true) := by
  intro pins s σ H x y v u Q I rx ry h
  obtain ⟨p, xs, rfl, hq, fx, fs, q⟩ := h
  cases ry
  rcases hq with hq | hq
  · obtain ⟨its, r, pl, hz⟩ := I.list hq
    refine SeqAt.notIn_listAt (LK x) pl.isList (fun w hw => cY rx fx r fs w (by simpa using hw)) ⟨.bl _, H, I, rfl, ?_⟩
    rw [show its.toArray.any (LK x) = its.any (LK x) by simp, eV r fs]
    exact q
  · obtain ⟨its, r, pl, hz⟩ := I.tuple hq
    refine SeqAt.notIn_tupleAt (LK x) pl (fun w hw => cY rx fx r fs w (by simpa using hw)) ⟨.bl _, H, I, rfl, ?_⟩
    rw [show its.toArray.any (LK x) = its.any (LK x) by simp, eV r fs]
    exact q
theorem AH5 : Hj X (.builtin "len") (fun xs H Q => ∃ p ys, xs = [.ref p] ∧ (Bl X.K H p ys ∨ Dt X.K H p ys) ∧ Q (.int ys.length) H) := by
  intro pins s σ H xs us Q I r h
  obtain ⟨p, ys, rfl, hq, q⟩ := h
  obtain ⟨u, rfl, rx⟩ := vals1 r
  cases rx
  have hn := TY
  rcases hq with hq | hq
  · obtain ⟨its, r', pl, hz⟩ := I.list hq
    have hlen := r'.length
    exact Calls.call_len_list pl.isList (by simp only [List.size_toArray] <;> omega) ⟨.int ys.length, H, I.tok _, ⟨s.toks + 1, by rw [List.size_toArray, hlen]⟩, q⟩
  · obtain ⟨its, r', pl, hz⟩ := I.tuple hq
    have hlen := r'.length
    exact len_tuple pl (by simp only [List.size_toArray] <;> omega) ⟨.int ys.length, H, I.tok _, ⟨s.toks + 1, by rw [List.size_toArray, hlen]⟩, q⟩
theorem AGt : Hj X (.type "list") (fun xs H Q => ∃ p ys, xs = [.ref p] ∧ (Bl X.K H p ys ∨ Dt X.K H p ys) ∧ ∀ l, H l = none → Q (.ref l) (upd H l (.lst ys))) := by
  intro pins s σ H xs us Q I r h
  obtain ⟨p, ys, rfl, hq, q⟩ := h
  obtain ⟨u, rfl, rx⟩ := vals1 r
  cases rx
  have fin : ∀ (its : List Value), Vals ys its → ys.length ≤ sizeLine → ∀ (h' : Heap) (c' : Nat), (∀ b o', s.heap.get? b = some o' → h'.get? b = some o') →
      h'.get? s.heap.objs.size = some { cls := .type "list", dict := none, data := .seq its.toArray c', slots := #[] } → EP X pins σ Q (.ref s.heap.objs.size) { s with heap := h' } := fun its r' hz h' c' kp e =>
    ⟨.ref s.heap.objs.size, _, I.laid (t' := s.toks) kp (Nat.le_refl _) (show Es X.prog X.w _ h' _ (.lst ys) from ⟨hz, its, c', r', e⟩), rfl, q _ (I.hok.fresh (Nat.le_refl _))⟩
  rcases hq with hq | hq
  · obtain ⟨its, r', pl, hz⟩ := I.list hq
    have hlen := r'.length
    obtain ⟨o, ho, hc, n, hd⟩ := pl.isList
    exact call_list_seq p (.inl rfl) ho hc hd (fun h' c' kp e => fin its r' hz h' c' kp e) (by simp only [List.size_toArray] <;> omega)
  · obtain ⟨its, r', pl, hz⟩ := I.tuple hq
    have hlen := r'.length
    obtain ⟨o, ho, hc, n, hd⟩ := pl
    exact call_list_seq p (.inr rfl) ho hc hd (fun h' c' kp e => fin its r' hz h' c' kp e) (by simp only [List.size_toArray] <;> omega)
def pQ (K : Frag) (T : String) (x : V) (H : Hp) : Prop := match x with
  | .str _ => T = "str"
  | .int _ => T = "int"
  | .ref p => (T = "list" ∧ ∃ xs, Bl K H p xs) ∨ (T = "tuple" ∧ ∃ o, K.lookup p = some o ∧ o.cls = .type "tuple" ∧ o.dict = none) ∨
      (T = "dict" ∧ ((∃ kvs, H p = some (.dK kvs)) ∨ ∃ kvs, H p = some (.dT kvs))) ∨ (T = "set" ∧ ∃ S n, H p = some (.set S n))
  | _ => False
theorem ADy {pins : List (Addr × Obj)} {σ : St} {H : Hp} {s : Shared} {T : String} {x : V} {v : Value} (I : Inv X pins σ H s) (r : RelV x v) (ty : pQ X.K T x H) :
    s.TypeIs v T ∧ ∀ a, v = .ref a → ∃ ob, s.heap.get? a = some ob ∧ ob.dict = none := by
  cases x with
  | str z =>
    obtain ⟨t, rfl⟩ := r
    cases (show T = "str" from ty)
    exact ⟨typeIs_str s z t, fun _ e => nomatch e⟩
  | int i =>
    obtain ⟨t, rfl⟩ := r
    cases (show T = "int" from ty)
    exact ⟨typeIs_int s i t, fun _ e => nomatch e⟩
  | ref p =>
    cases r
    rcases ty with ⟨rfl, xs, hq⟩ | ⟨rfl, o, hk, hc, hd⟩ | ⟨rfl, hk⟩ | ⟨rfl, S, n, hk⟩
    · obtain ⟨its, _, pl, _⟩ := I.list hq
      refine ⟨pl.isList.typeIs, fun a e => ?_⟩
      cases e
      obtain ⟨o, n, e, c, hd, _⟩ := pl
      exact ⟨o, e, hd⟩
    · refine ⟨⟨o, I.DP p o hk, hc⟩, fun a e => ?_⟩
      cases e
      exact ⟨o, I.DP _ o hk, hd⟩
    · have z : ∃ o, s.heap.get? p = some o ∧ o.ExactDict := by
        rcases hk with ⟨kvs, hk⟩ | ⟨kvs, hk⟩
        · obtain ⟨_, _, _, _, o, _, _, e, ex, _⟩ := I.hok p _ hk
          exact ⟨o, e, ex⟩
        · obtain ⟨_, _, _, _, o, _, _, e, ex, _⟩ := I.hok p _ hk
          exact ⟨o, e, ex⟩
      obtain ⟨o, e, ex⟩ := z
      refine ⟨⟨o, e, ex.1⟩, fun a e2 => ?_⟩
      cases e2
      exact ⟨o, e, ex.2.1⟩
    · obtain ⟨o, _, _, _, e, ex, _⟩ := I.hok p _ hk
      refine ⟨⟨o, e, ex.1⟩, fun a e2 => ?_⟩
      cases e2
      exact ⟨o, e, ex.2.1⟩
  | _ => exact False.elim ty
def Ss (K : Frag) (T : String) (r : V → List V → Hp → VK → Prop) (to : TE) (t : TA) : TE := fun σ H Q => to σ H fun x H1 => pQ K T x H1 ∧ t σ H1 fun xs H2 => r x xs H2 Q
variable {o e : Expr} {es : List Expr} {to : TE} {t : TA} {name : Str} {apos cpos : Pos} {T id : String} {r : V → List V → Hp → VK → Prop}
theorem qO (pa : PlainAttrs T) (slot : Slot T name id) (hty : typeOf (.builtin id) = pure (.type "method_descriptor")) (hm : zU X id r) (ho : PE X o to) (ha : PA X (e :: es) t) (hbase : attributeBase o name X.env (eval o X.env) = eval o X.env := by rfl) (hfew : ((backTo cpos (starEach (e :: es) X.env)).all (fun x => !x.1) && (backToKw cpos (keywordEach [] X.env)).all (fun x => x.1.isSome)
      && decide ((e :: es).length + ([] : List Keyword).length + (if ([] : List Keyword).isEmpty then 0 else 1) < 30)) = true := by rfl)
    (hline : (apos.endLine == cpos.line) = true := by rfl) (hs : starEach (e :: es) X.env = (false, eval e X.env) :: starEach es X.env := by rfl) (hplain : (backTo cpos (starEach es X.env)).any (·.1) = false := by rfl) :
    PE X (.Call (.Attribute o name apos) (e :: es) [] cpos) (Ss X.K T r to t) := by
  intro pins s σ H Q I h
  refine wpAny_Call_method_late hbase hfew hline rfl (Bg (ho pins s σ H _ I h) fun v s1 ⟨x, H1, I1, r1, ty, q1⟩ => ?_)
  obtain ⟨h1, h2⟩ := ADy I1 r1 ty
  refine ⟨T, id, pa, slot, hty, h1, h2, ?_⟩
  have hA := ha cpos pins s1 σ H1 _ I1 q1
  rw [hs] at hA ⊢
  refine Calls.callWith_builtin (by show (false || (backTo cpos (starEach es X.env)).any (·.1)) = false; rw [hplain] <;> rfl) (Calls.evalArgs_plain ?_)
  exact Bg hA fun us s2 ⟨vs, H2, I2, r2, q2⟩ => hm pins s2 σ H2 x vs v us Q I2 r1 r2 q2
/- xs.append(e), list.index on a module's tuple .. are zU facts of 06m -/
end
end L2
namespace L2
open PySem PySem.Spec PyProof.Rows
def pF (X : Cx) (id : String) (r : V → List V → Hp → VK → Prop) : Prop :=
  ∀ (pins : List (Addr × Obj)) (s : Shared) (σ : St) (H : Hp) (x : V) (xs : List V) (v : Value) (us : List Value) (Q : VK), Inv X pins σ H s → RelV x v → Vals xs us → r x xs H Q →
    wpAny (model X.prog X.w) X.A (call (.builtin id) (v :: us)) (EP X pins σ Q) X.xe s
theorem Vals.one : ∀ {x : V} {us : List Value}, Vals [x] us → ∃ u, us = [u] ∧ RelV x u
  | _, _, .cons r .nil => ⟨_, rfl, r⟩
theorem Vals.eraseIdx : ∀ {xs : List V} {us : List Value} (i : Nat), Vals xs us → Vals (xs.eraseIdx i) (us.eraseIdx i)
  | _, _, _, .nil => .nil
  | _, _, 0, .cons _ t => t
  | _, _, i + 1, .cons r t => .cons r (Vals.eraseIdx i t)
theorem tQ {α : Type} : ∀ (l : List α) (i : Nat), (l.eraseIdx i).length ≤ l.length
  | [], _ => Nat.le_refl _
  | _ :: _, 0 => Nat.le_succ _
  | _ :: r, i + 1 => Nat.succ_le_succ (tQ r i)
section
variable {X : Cx} {pins : List (Addr × Obj)} {σ : St} {H : Hp} {s : Shared} {l b : Addr} {xs ys zs : List V}
theorem Inv.v8 {its its' : List Value} {n : Nat} {f : Array Value → Array Value} {t' : Nat} (I : Inv X pins σ H s) (hH : H l = some (.lst xs)) (e : s.heap.get? l = some { cls := .type "list", data := .seq its.toArray n }) (hf : f its.toArray = its'.toArray) (hv : Vals ys its') (hz : ys.length ≤ sizeLine) :
    Inv X pins σ (upd H l (.lst ys)) { s with heap := s.heap.update l (Obj.mapSeq f), toks := t' } := by
  have q := PySem.IsL.update e f
  rw [hf] at q
  refine I.write (x := l) (e := l) (by rw [hH]; exact trivial) (.inl rfl) (fun b' u hb hu => (Heap.get?_update_other s.heap (Obj.mapSeq f) (Ne.symm hb)).trans hu) ⟨_, q⟩ ?_
  exact ⟨hz, its', _, hv, q⟩
theorem Inv.t6 {its : List Value} {t' : Nat} (I : Inv X pins σ H s) (hv : Vals ys its) (hz : ys.length ≤ sizeLine) :
    Inv X pins σ (upd H s.heap.objs.size (.lst ys)) { s with heap := s.heap.push { cls := .type "list", data := .seq its.toArray }, toks := t' } :=
  I.laid (fun _ _ q => Heap.get?_push_of_some _ q) (Nat.le_refl _) ⟨hz, its, 0, hv, Heap.get?_push_size _ rfl⟩
theorem Inv.fresh (I : Inv X pins σ H s) : H s.heap.objs.size = none := I.hok.fresh (Nat.le_refl _)
theorem Inv.wL (I : Inv X pins σ H s) (hH : H l = some (.lst xs)) : xs.length ≤ sizeLine ∧ ∃ (its : List Value) (n : Nat), Vals xs its ∧ xs.length = its.length ∧ s.heap.get? l = some { cls := .type "list", data := .seq its.toArray n } := by
  obtain ⟨z, its, n, r, e⟩ := I.hok l _ hH
  exact ⟨z, its, n, r, r.length, e⟩
end
section
variable {X : Cx}
def Xc : V → List V → Hp → VK → Prop := fun x vs H Q => ∃ l xs y, x = .ref l ∧ vs = [y] ∧ H l = some (.lst xs) ∧ xs.length < sizeLine ∧ Q .non (upd H l (.lst (xs ++ [y])))
theorem tE : pF X "list.append" Xc := by
  intro pins s σ H x vs v us Q I rx rv h
  obtain ⟨l, xs, y, rfl, rfl, hH, hz, q⟩ := h
  cases rx
  obtain ⟨u, rfl, ru⟩ := rv.one
  obtain ⟨z, its, n, r, hl, e⟩ := I.wL hH
  refine call_meets F.slot_list_append ⟨_, e, rfl⟩ F.entry_list_append (F.args_list_append_2 _ _) (PySem.list_append l its.toArray n u (by rw [List.size_toArray]; omega)) ⟨e, ?_⟩
  refine ⟨.non, _, I.v8 (its' := its ++ [u]) hH e (by simp) (r.append (.cons ru .nil)) ?_, rfl, q⟩
  rw [List.length_append, List.length_singleton]
  omega
def nU : V → List V → Hp → VK → Prop := fun x vs H Q => ∃ l xs i k y, x = .ref l ∧ vs = [.int i] ∧ H l = some (.lst xs) ∧ -(2 ^ 63) ≤ i ∧ i < 2 ^ 63 ∧ seqIndex? i xs.length = some k ∧ xs[k]? = some y ∧ Q y (upd H l (.lst (xs.eraseIdx k)))
theorem AAV : pF X "list.pop" nU := by
  intro pins s σ H x vs v us Q I rx rv h
  obtain ⟨l, xs, i, k, y, rfl, rfl, hH, h1, h2, hk, hy, q⟩ := h
  cases rx
  obtain ⟨u, rfl, ru⟩ := rv.one
  obtain ⟨t, rfl⟩ := ru
  obtain ⟨z, its, n, r, hl, e⟩ := I.wL hH
  obtain ⟨w, hw, rw'⟩ := r.get hy
  refine call_meets F.slot_list_pop ⟨_, e, rfl⟩ F.entry_list_pop (F.args_list_pop_2 _ _)
    (MeetsSeq.list_pop_at l its.toArray n i t k w (fitsIndex_both h1 h2) (by rw [List.size_toArray, ← hl]; exact hk) (by rw [← Array.getElem?_toList]; exact hw) (by rw [List.size_toArray]; omega)) ⟨e, ?_⟩
  refine ⟨y, _, I.v8 (its' := its.eraseIdx k) hH e ?_ (r.eraseIdx k) ?_, rw', q⟩
  · show its.toArray.eraseIdxIfInBounds k = (its.eraseIdx k).toArray
    rw [List.eraseIdxIfInBounds_toArray]
  · have := tQ xs k
    omega
end
section
variable {prog : Program} {w : World} {A : Around} {E : Value → Shared → Prop} {s : Shared}
set_option maxRecDepth 100000 in
end
end L2
namespace Att
open PySem PySem.W PySem.Calls PyProof.Rows
theorem AJM {P : Params} {h : Heap} : ∀ (ns : List Int) (vs : List Value), WellAll P h vs (ns.map WData.int) → IntsAre vs ns := by
  intro ns
  induction ns with
  | nil =>
    intro vs w
    rw [List.map_nil] at w
    cases w
    exact .nil
  | cons n ns ih =>
    intro vs w
    rw [List.map_cons] at w
    cases w with
    | cons a b =>
      cases a
      exact .cons _ _ (ih _ b)
theorem ABs {l : OpenLaw} {n : Nat} (hn : l.most = some n) {P : Params} {h : Heap} {args : List WData} {vals : List Value} (hpre : l.row.toRowW.claim.pre args = true) (hwl : WellAll P h vals args) :
    ∃ a vs ns, vals = [Value.ref a] ∧ args = [WData.list (ns.map WData.int)] ∧ h.get? a = some { cls := .type "list", data := .seq vs.toArray } ∧ IntsAre vs ns ∧ ns.length ≤ n := by
  have hsh : WShape.hasAll [] args [.list .int] = true := (pre_splitW hpre).1
  have hc : l.pre.holds [] { args := args } = true := (pre_splitW hpre).2
  obtain ⟨d, r, rfl, h1, h2⟩ := hasAllW_cons hsh
  obtain rfl := hasAllW_nil h2
  obtain ⟨xs, rfl, h3⟩ := hasW_list h1
  obtain ⟨ns, rfl⟩ := items_int h3
  have hlen : ns.length ≤ n := by
    unfold OpenLaw.pre at hc
    have h4 : (WTm.not (.lt (.lit (.int (n : Int))) (.len (.arg 0)))).holds [] { args := [.list (ns.map .int)] } = true := by
      have h4 := (holds_andW hc).1
      rw [hn] at h4
      exact h4
    have h5 := condW_of h4 (w_not (w_lt w_lit (w_len_list (w_arg rfl))))
    rw [List.length_map] at h5
    refine Nat.le_of_not_lt fun q => ?_
    have q' : (n : Int) < ((ns.length : Nat) : Int) := by omega
    first
      | (rw [decide_eq_true q'] at h5; exact absurd h5 (by decide))
      | (simp at h5; omega)
  cases hwl with
  | cons w1 w2 =>
    cases w2
    cases w1 with
    | list ho hall => exact ⟨_, _, ns, rfl, rfl, ho, AJM ns _ hall, hlen⟩
theorem AHF (l : OpenLaw) (args : List WData) : l.row.toRowW.claim.post args (.bool true) args = true :=
  postW_of (r := l.row.toRowW) (X := (true == true))
    (show WShape.has [] (.bool true) .bool = true by first | rfl | decide | simp [WShape.has, WShape.arms, WShape.armsAll])
    (show (WTm.eq .res (.lit (.bool true))).value [] { args := args, res := some (.bool true), after := args } = some (.bool (true == true)) from w_eq_bool (w_res rfl) w_lit) rfl
theorem z9 {l : OpenLaw} {n : Nat} {q : Program} {loose : List Str} {XP : (Str → Option Value) → Heap → Prop} {YP : World → Heap → Prop} {d : DefRec} (hn : l.most = some n) (hdf : d.params.defaults = []) (call : ∀ (w : World) (s₀ s₁ : Shared) (mg mb : Str → Option Value) (fa : Addr) (o : Obj) (pm cd doc : Value) (a : Addr) (vs : List Value) (ns : List Int),
      Ground q loose [] XP w s₀ mg mb s₁.heap → YP w s₁.heap →
      s₁.heap.get? fa = some o → o.data = .func (docDef d.name d.params d.body d.scope pm cd doc) → s₁.heap.CodeRec cd d.name → mg d.name = some (.ref fa) →
      s₁.heap.get? a = some { cls := .type "list", data := .seq vs.toArray } → IntsAre vs ns → ns.length ≤ n → s₁.gens = #[] →
      codeAny (model l.prog w) callerA (.call (.ref fa) ⟨[.ref a], []⟩) (fun r s' => r = .ok (.ret (.bool true)) ∧ OldK s₁.heap s'.heap ∧ s'.os = s₁.os ∧ AllBare s'.gens) s₁) :
    WalkO q loose XP YP l.row.toRowW d [] (fun f vs => PySem.call f vs) := by
  intro w s₀ s₁ mg mb G Y fa o pm cd doc dV kV ho hd hcd hD hmg hg args vals as hpre hlay hrd hwl hlo
  obtain rfl : dV = .none := Dflts.none hD hdf
  obtain rfl : kV = .none := Dflts.noKw hD
  obtain ⟨a, vs, ns, rfl, rfl, hobj, hints, hlen⟩ := ABs hn hpre hwl
  refine enter_call (codeAny_mono (call w s₀ s₁ mg mb fa o pm cd doc a vs ns G Y ho (fd_plain hd) hcd hmg hobj hints hlen hg) fun r s' hq => ?_)
  obtain ⟨rfl, h2, h3, h4⟩ := hq
  exact ⟨.inl ⟨.bool true, .bool true, [], rfl, fun _ => rfl, .bool true, AHF l _, fun _ => ⟨List.Pairwise.nil, fun _ hm => (nomatch hm)⟩⟩, h2, h3, h4⟩
section
variable {prog : Program} {w : World} {A : Around} {E : Value → Shared → Prop} {s : Shared} {K : Frag}
def ledger (h : Heap) (L d : Addr) : List (Addr × Obj) := (List.range h.objs.size).filterMap fun a => if a = L ∨ a = d then none else (h.get? a).map fun o => (a, o)
end
end Att
namespace L2
open PySem PySem.Spec PyProof.Rows
theorem wU : ∀ {vs : List Value} {ns : List Int}, IntsAre vs ns → Vals (ns.map V.int) vs
  | _, _, .nil => .nil
  | _, _, .cons n t h => .cons ⟨t, rfl⟩ (wU h)
def Y0 (H : Hp) : Prop := ∀ b, H b = none ∨ ∃ o xs, H b = some (.frz o (.lst xs))
theorem AJg {P : Program} {w : World} {K : Frag} {mg mb : Str → Option Value} {CX : Hg} {k : Nat} {fa a : Addr} {fd : FuncData} {x : Str} {sp : Sp} {s₁ : Shared} {vs : List Value} {ns : List Int} (KX : K.In s₁.heap) (hns : s₁.heap.Ns mainGlobals mg) (hb : s₁.heap.Ns builtinsNs mb) (hbb : ∀ x : Str, x ≠ "__name__" → mb x = bootBuiltins x) (hlim : s₁.heap.NoLimit) (hg : s₁.gens = #[]) (ha : s₁.heap.get? a = some { cls := .type "list", data := .seq vs.toArray }) (hi : IntsAre vs ns) (hl : ns.length ≤ sizeLine) (hr : CV k callerA) (F : ∀ base : Heap, K.In base → base.Ns mainGlobals mg → Ei P w K mg base CX k fa fd [x] sp) (hbind : ∀ (s : Shared) (u : Value), BindsTo s fd ⟨[u], []⟩ [(x, u)]) (hsp : ∀ H : Hp, Y0 H → Bl K H a (ns.map V.int) → sp [.ref a] H (fun v _ => v = .bl true) fun _ _ _ => False) (hCX : ∀ H e s', CX [] H s₁ (fun _ _ _ => False) e s' → False) :
    codeAny (model P w) callerA (.call (.ref fa) ⟨[.ref a], []⟩) (fun r s' => r = .ok (.ret (.bool true)) ∧ OldK s₁.heap s'.heap ∧ s'.os = s₁.os ∧ AllBare s'.gens) s₁ := by
  have rv := wU hi
  have lenV := hi.length
  have core : ∀ H : Hp, Y0 H → Bl K H a (ns.map V.int) → Ea P w H s₁.heap → (∀ b, H b ≠ none → b = a) → (H a ≠ none → K.lookup a = none) →
      codeAny (model P w) callerA (.call (.ref fa) ⟨[.ref a], []⟩) (fun r s' => r = .ok (.ret (.bool true)) ∧ OldK s₁.heap s'.heap ∧ s'.os = s₁.os ∧ AllBare s'.gens) s₁ := by
    intro H hO hS hok hA hK
    have base_of : ∀ {b : Addr} {o : Obj}, s₁.heap.get? b = some o → H b = none → (Ly s₁.heap H).get? b = some o := fun e n => AEm e n
    have noA : ∀ {b : Addr} {o : Obj} {es : Array DictEntry} {ep : Nat}, s₁.heap.get? b = some o → o.data = .dict es ep → H b = none := fun {b o es ep} e d => by
      cases q : H b with
      | none => rfl
      | some u =>
        have e' : b = a := hA b (by rw [q]; simp)
        subst e'
        rw [ha] at e; cases e
        have d' : Data.seq vs.toArray _ = Data.dict es ep := d
        cases d'
    have nsK : ∀ {b : Addr} {m : Str → Option Value}, s₁.heap.Ns b m → (Ly s₁.heap H).Ns b m := fun {b m} ⟨o, es, ep, e, d, r⟩ => ⟨o, es, ep, base_of e (noA e d), d, r⟩
    have hKb : K.In (Ly s₁.heap H) := fun b o e => base_of (KX b o e) (by
      cases q : H b with
      | none => rfl
      | some u =>
        have e' : b = a := hA b (by rw [q]; simp)
        subst e'
        rw [hK (by rw [q]; simp)] at e; cases e)
    have hM : Mod K mg (Ly s₁.heap H) := ⟨hKb, nsK hns, ⟨mb, nsK hb, hbb⟩, let ⟨mc, h1, h2⟩ := hlim; ⟨mc, nsK h1, h2⟩⟩
    have e0 : Oh P w K mg (Ly s₁.heap H) callerA [] s₁ H := ⟨rfl, hM, fun b o e => AG7 e, Nat.le_of_eq (AEd _ _), trivial, fun b hb => absurd (show b ∈ ([] : List Addr) from hb) (by simp), hok, .of_eq hg⟩
    refine codeAny_mono ((F _ hKb (nsK hns)).run callerA [] s₁ H ⟨[.ref a], []⟩ [.ref a] [.ref a] _ _ hr e0 (hbind s₁ (.ref a)) (.cons rfl .nil) (hsp H hO hS)) fun r s' h => ?_
    cases r with
    | error e => exact (hCX H e s' h).elim
    | ok fl =>
      cases fl with
      | next => exact False.elim h
      | brk => exact False.elim h
      | cont => exact False.elim h
      | ret u =>
        obtain ⟨v, H', os, bare, un, hok', r', q⟩ := h
        have q' : v = .bl true := q
        subst q'
        obtain rfl : u = Value.bool true := r'
        refine ⟨rfl, OldK.of_keep fun b o e => ?_, os, bare⟩
        cases q : H b with
        | none => exact un.keep b o e q (by intro z; exact absurd (show b ∈ ([] : List Addr) from z) (by simp)) (by simp)
        | some u =>
          rcases hO b with z | ⟨ob, xs, z⟩
          · rw [q] at z; cases z
          · have z2 := un.frzs b ob _ z
            obtain ⟨e1, _⟩ := hok b _ z
            obtain ⟨e2, _⟩ := hok' b _ z2
            rw [e] at e1; cases e1
            exact e2
  cases hk : K.lookup a with
  | some o =>
    have e := KX a o hk
    rw [ha] at e
    cases e
    refine core (fun _ => none) (fun _ => .inl rfl) (.inr ⟨_, vs.toArray, _, hk, rfl, rfl, rfl, by rw [List.size_toArray, lenV]; exact hl, by simpa using rv⟩) (fun b u z => by have z' : (none : Option HO) = some u := z; cases z') (fun b z => absurd rfl z) fun z => absurd rfl z
  | none =>
    refine core (fun b => if b = a then some (.frz { cls := .type "list", data := .seq vs.toArray } (.lst (ns.map V.int))) else none) (fun b => ?_) (.inl (.inr ⟨{ cls := .type "list", data := .seq vs.toArray }, if_pos rfl⟩)) (fun b u z => ?_) (fun b z => ?_) fun _ => hk
    · by_cases hb : b = a
      · exact .inr ⟨_, _, if_pos hb⟩
      · exact .inl (if_neg hb)
    · by_cases hb : b = a
      · have z' := (if_pos hb).symm.trans z
        cases z'
        subst hb
        exact ⟨ha, by rw [List.length_map]; exact hl, vs, _, rv, ha⟩
      · have z' := (if_neg hb).symm.trans z
        cases z'
    · by_cases hb : b = a
      · exact hb
      · exact absurd (if_neg hb) z
end L2
namespace L2
open PySem PySem.Spec PyProof.Rows
abbrev qP {K : Frag} {h : Heap} (_ : K.In h) : Frag := K
theorem qD {l : PySem.W.OpenLaw} {n k : Nat} {q : Program} {loose : List Str} {XP : (Str → Option Value) → Heap → Prop} {YP : World → Heap → Prop} {d : DefRec} {K : Params → Frag} {CX : World → Hg} {sp : World → Sp} {x : Str} (hn : l.most = some n) (hn2 : n ≤ sizeLine) (hdf : d.params.defaults = []) (hr : CV k callerA) (hY : ∀ (w : World) (h : Heap), YP w h → (K w.params).In h) (F : ∀ (w : World) (mg : Str → Option Value) (fa : Addr) (h : Heap), (K w.params).In h → h.Ns mainGlobals mg → mg d.name = some (.ref fa) →
      ∃ fd : FuncData, (∀ (s : Shared) (u : Value), BindsTo s fd ⟨[u], []⟩ [(x, u)]) ∧
        ∀ base : Heap, (K w.params).In base → base.Ns mainGlobals mg → Ei l.prog w (K w.params) mg base (CX w) k fa fd [x] (sp w))
    (hsp : ∀ (w : World) (H : Hp) (a : Addr) (ns : List Int), ns.length ≤ n → Y0 H → Bl (K w.params) H a (ns.map V.int) → sp w [.ref a] H (fun v _ => v = .bl true) fun _ _ _ => False)
    (hCX : ∀ (w : World) (H : Hp) (s : Shared) (e : Value) (s' : Shared), CX w [] H s (fun _ _ _ => False) e s' → False) :
    PySem.W.WalkO q loose XP YP l.row.toRowW d [] (fun f vs => PySem.call f vs) := by
  refine Att.z9 hn hdf fun w s₀ s₁ mg mb fa o pm cd doc a vs ns G Y ho hd hcd hmg hobj hints hlen hg => ?_
  have KX := hY w _ Y
  obtain ⟨fd, hb, hF⟩ := F w mg fa _ KX G.T.g hmg
  exact AJg KX G.T.g G.T.b G.T.builtins G.T.nolimit hg hobj hints (Nat.le_trans hlen hn2) hr hF hb (fun H hO hS => hsp w H a ns hlen hO hS) fun H e s' => hCX w H s₁ e s'
theorem AHM {l : PySem.W.OpenLaw} {n k : Nat} {q : Program} {loose : List Str} {XP : (Str → Option Value) → Heap → Prop} {YP : World → Heap → Prop} {d : DefRec} {K : Params → Frag} {CX : Hg} {sp : Frag → Sp} {x : Str} (hn : l.most = some n) (hn2 : n ≤ sizeLine) (hdf : d.params.defaults = []) (hr : CV k callerA) (hY : ∀ (w : World) (h : Heap), YP w h → (K w.params).In h) (F : ∀ (w : World) (mg : Str → Option Value) (fa : Addr) (h : Heap), (K w.params).In h → h.Ns mainGlobals mg → mg d.name = some (.ref fa) →
      ∃ fd : FuncData, (∀ (s : Shared) (u : Value), BindsTo s fd ⟨[u], []⟩ [(x, u)]) ∧
        ∀ base : Heap, (K w.params).In base → base.Ns mainGlobals mg → Ei l.prog w (K w.params) mg base CX k fa fd [x] (sp (K w.params)))
    (hsp : ∀ (K : Frag) (H : Hp) (a : Addr) (ns : List Int), ns.length ≤ n → Y0 H → Bl K H a (ns.map V.int) → sp K [.ref a] H (fun v _ => v = .bl true) fun _ _ _ => False)
    (hCX : ∀ (H : Hp) (s : Shared) (e : Value) (s' : Shared), CX [] H s (fun _ _ _ => False) e s' → False) :
    PySem.W.WalkO q loose XP YP l.row.toRowW d [] (fun f vs => PySem.call f vs) :=
  qD (K := K) (CX := fun _ => CX) (sp := fun w => sp (K w.params)) hn hn2 hdf hr hY F (fun w H a ns h1 h2 h3 => hsp (K w.params) H a ns h1 h2 h3) fun _ H s e s' => hCX H s e s'
end L2
/- THE LAST THEOREM (shape; LID, My.* are yours):
   My.Adr: a structure of the addresses that your layer names (classes, functions); My.Txt K t: a structure (Prop) of the equations over K;
   My.txt_mk : {K} {implicit addresses ..} (e1 : nsIn K mainGlobals "law" = some (some (.ref f))) (e2 : K.lookup f = some ⟨oc, od, .func (fnOf "law" "law" params body scope dV kV doc pm an cdv ct), sl⟩) (e3 : codeIn K cdv "law" = true) .. : ∃ t, My.Txt K t
set_option maxRecDepth 100000 in
set_option maxHeartbeats 0 in
theorem PySem.Challenge.cw_LID_holds : PySem.Challenge.rw_LID.Holds := by
  w_on; o_law; k_head; (case hw => w_witness2)
  k_fill
  refine L2.qD (l := PySem.Challenge.rw_LID) (n := 63) (k := 40) (x := "script") (CX := fun w => ..) (sp := fun _ => My.sp_law) rfl (by decide) rfl ⟨rfl, by decide, by decide⟩ (fun w h Y => PySem.W.kIn_of Y) ?F ?S ?C
  case F =>
    intro w mg fa h KX G hmg
    have T : ∃ t, My.Txt (L2.qP KX) t := by
      dsimp only [L2.qP]                          -- K must stand as «<heap const> w.params» for k_is
      refine' My.txt_mk ?e1 ?e2 ?e3 ..
      (case e1 => PySem.W.k_is)                    -- in the order: a name -> its address -> its object -> its parts
      (case e2 => PySem.W.k_is)
      ..
    obtain ⟨t, T⟩ := T
    have e0 := hmg.symm.trans (mg_of KX G T.yO)
    cases e0                                       -- fa is the law's own address
    exact ⟨_, fun s u => .of_eq rfl, fun base kb nb => My.law_fn T kb nb⟩     -- if «.of_eq rfl» comes too early: refine' ⟨_, ?b, fun base kb nb => My.law_fn T kb nb⟩; exact fun s u => .of_eq rfl
  case S => exact fun w H a ns hl hO hS => ..
  case C => exact ..
(the tactic k_is has no namespace: write k_is) -/
namespace L2
open PySem PySem.Spec PyProof.Rows
def Fx (s : Stmt) : Arguments := match s with
  | .FunctionDef _ a _ _ _ _ _ _ _ _ => a
  | _ => { posonlyargs := [], args := [], vararg := none, kwonlyargs := [], kw_defaults := [], kwarg := none, defaults := [] }
def Df (s : Stmt) : List Stmt := match s with
  | .FunctionDef _ _ b _ _ _ _ _ _ _ => b
  | _ => []
def BL (s : Stmt) : Scope := match s with
  | .FunctionDef _ _ _ _ _ _ sc _ _ _ => sc
  | _ => { kind := .function, names := [], isGenerator := false, isCoroutine := false }
abbrev GZ : Hg := fun _ _ _ _ _ _ => False
abbrev E0 : XK := fun _ _ _ => False
theorem Nr {X : Cx} : Passes GZ X E0 := fun _ _ _ _ _ _ _ h => h.elim
structure QQ (K : Frag) (x qual : Str) (st : Stmt) (f : Addr) (fd : FuncData) : Prop where
  ex : ∃ (oc : Value) (od : Option Addr) (kV doc pm : Value) (an : Option Addr) (cdv ct : Value) (osl : Array (Option Value)),
    fd = fnOf x qual (Fx st) (Df st) (BL st) .none kV doc pm an cdv ct ∧ K.lookup f = some ⟨oc, od, .func fd, osl⟩ ∧ codeIn K cdv qual = true
  kp : keepIn K (.ref f) = true
section
variable {P : Program} {w : World} {K : Frag} {mg : Str → Option Value} {base : Heap}
theorem QQ.ok {x qual : Str} {st : Stmt} {f : Addr} {fd : FuncData} {N ps : List Str} {k : Nat} {sp : Sp} (F : QQ K x qual st f fd) (S : Bk N ps (BL st)) (len : ∀ vs H Q E, sp vs H Q E → vs.length = ps.length) (hbody : ∀ (cdv : Value) (A : Around) (outer : List Env) (s : Shared) (H : Hp) (vs : List V) (Q : VK) (E : XK), CV k (A.deeper (envOfC qual (BL st) s.heap.objs.size f cdv)) → sp vs H Q E →
      ∃ t, Ez (Dh GZ P w K mg base N qual (BL st) f cdv A outer s H E).Ds (Df st) t ∧ t { nx := fun _ H' => Q .non H', rt := Q } (start N vs) H) : Ei P w K mg base GZ (k + 1) f fd ps sp := by
  obtain ⟨oc, od, kV, doc, pm, an, cdv, ct, osl, rfl, lk, hcd⟩ := F.ex
  refine Wb lk hcd S len fun A outer s H vs Q E hr hsp => ?_
  obtain ⟨t, h, q⟩ := hbody cdv A outer s H vs Q E hr hsp
  exact ⟨t, h.Ds, q⟩
theorem QQ.binds {x qual : Str} {st : Stmt} {f : Addr} {fd : FuncData} {ps : List Str} (F : QQ K x qual st f fd) (h : ∀ (kV doc pm : Value) (an : Option Addr) (cdv ct : Value) (us : List Value), us.length = ps.length → bindArgs (fnOf x qual (Fx st) (Df st) (BL st) .none kV doc pm an cdv ct) ⟨us, []⟩ = pure (ps.zip us)) : Binds K fd ps [] := by
  obtain ⟨oc, od, kV, doc, pm, an, cdv, ct, osl, rfl, lk, hcd⟩ := F.ex
  exact .all (h kV doc pm an cdv ct)
theorem vV {x qual : Str} {st : Stmt} {f : Addr} {oc : Value} {od an : Option Addr} {osl : Array (Option Value)} {kV doc pm cdv ct : Value} (l : K.lookup f = some ⟨oc, od, .func (fnOf x qual (Fx st) (Df st) (BL st) .none kV doc pm an cdv ct), osl⟩) (c : codeIn K cdv qual = true) (k : keepIn K (.ref f) = true) : QQ K x qual st f (fnOf x qual (Fx st) (Df st) (BL st) .none kV doc pm an cdv ct) := ⟨⟨oc, od, kV, doc, pm, an, cdv, ct, osl, rfl, l, c⟩, k⟩
end
section
variable {X : Cx}
theorem pv (i : Nat) {x : Str} {pos : Pos} (hN : X.N[i]? = some x := by rfl) (hv : Ig X.env.scope x := by first | exact Or.inl rfl | exact Or.inr (Or.inl rfl) | exact Or.inr (Or.inr rfl)) (hd : (x == ("__debug__" : Str)) = false := by decide)
    (hcd : (x == ("__classdict__" : Str)) = false := by decide) : PE X (.Name x pos) (Eh i) := M4 hN hv hd hcd
end
def Ao (H H' : Hp) : Prop := ∀ b o, H b = some o → H' b = some o
theorem Ao.refl (H : Hp) : Ao H H := fun _ _ h => h
theorem Ao.trans {H H1 H2 : Hp} (a : Ao H H1) (b : Ao H1 H2) : Ao H H2 := fun c o h => b c o (a c o h)
theorem Ao.free {H H' : Hp} (e : Ao H H') {l : Addr} (h : H' l = Option.none) : H l = Option.none := by
  cases q : H l with
  | none => rfl
  | some o =>
    rw [e l o q] at h
    cases h
theorem Ao.seq {K : Frag} {H H' : Hp} {a : Addr} {xs : List V} (e : Ao H H') (h : Bl K H a xs) : Bl K H' a xs := by
  rcases h with (h | ⟨o, h⟩) | h
  · exact .inl (.inl (e _ _ h))
  · exact .inl (.inr ⟨o, e _ _ h⟩)
  · exact .inr h
end L2
set_option maxHeartbeats 4000000
namespace L2
open PySem PySem.Spec PyProof.Rows
def Di (X : Cx) (N' : List Str) (scope : Scope) (cl : List (Str × Addr)) (fp : List Addr) (pins : List (Addr × Obj)) (s : Shared) (H : Hp) : Cx where
  prog := X.prog
  w := X.w
  K := X.K
  mg := X.mg
  base := X.base
  A := X.A
  N := N'
  s₀ := s
  H₀ := H
  env := compEnvC scope cl s.heap.objs.size X.env
  outer := X.stack
  stack := X.stack
  ex := fp
  fn := fun _ => false
  calm := X.calm
  pn := X.pn ++ pins
  xe := fun _ _ => False
def Ep (env : Env) : List (Str × NameKind) → List (Str × Addr) → List (Str × Addr)
  | [], acc => acc
  | (n, k) :: r, acc => if (k == NameKind.free) = true then Ep env r ((n, (env.cells.lookup n).getD 0) :: acc) else Ep env r acc
theorem mem_of_lookup {β : Type} : ∀ {l : List (Str × β)} {x : Str} {k : β}, l.lookup x = some k → (x, k) ∈ l
  | [], _, _, h => by simp at h
  | (n, j) :: r, x, k, h => by
    rw [List.lookup_cons] at h
    cases hx : x == n with
    | true =>
      rw [hx] at h
      have e : x = n := eq_of_beq hx
      subst e
      have e2 : j = k := by simpa using h
      subst e2
      exact CW
    | false =>
      rw [hx] at h
      exact BZ (mem_of_lookup (by simpa using h))
theorem dO {env : Env} {x : Str} {c : Addr} : ∀ (l : List (Str × NameKind)) (acc : List (Str × Addr)), (∀ y ∈ l, y.2 = .free → ∃ c, env.cells.lookup y.1 = some c) → (Ep env l acc).lookup x = some c → acc.lookup x = some c ∨ env.cells.lookup x = some c
  | [], acc, _, h => .inl h
  | (n, k) :: r, acc, hf, h => by
    have hr : ∀ y ∈ r, y.2 = .free → ∃ c, env.cells.lookup y.1 = some c := fun y hy => hf y (BZ hy)
    unfold Ep at h
    by_cases hk : (k == NameKind.free) = true
    · rw [if_pos hk] at h
      rcases dO r _ hr h with h1 | h1
      · rw [List.lookup_cons] at h1
        cases hx : x == n with
        | true =>
          rw [hx] at h1
          have e : x = n := eq_of_beq hx
          subst e
          have hk' : k = .free := eq_of_beq hk
          obtain ⟨c', hc'⟩ := hf (x, k) CW hk'
          have hc2 : env.cells.lookup x = some c' := hc'
          rw [hc2] at h1
          right
          rw [hc2]
          simpa using h1
        | false =>
          rw [hx] at h1
          exact .inl (by simpa using h1)
      · exact .inr h1
    · rw [if_neg hk] at h
      exact dO r _ hr h
theorem cV {env : Env} {x : Str} : ∀ (l : List (Str × NameKind)) (acc : List (Str × Addr)), ((x, NameKind.free) ∈ l ∨ ∃ c, acc.lookup x = some c) → ∃ c, (Ep env l acc).lookup x = some c
  | [], acc, h => by
    rcases h with h | h
    · cases h
    · exact h
  | (n, k) :: r, acc, h => by
    unfold Ep
    by_cases hk : (k == NameKind.free) = true
    · rw [if_pos hk]
      refine cV r _ ?_
      rcases h with h | ⟨c, h⟩
      · rcases List.mem_cons.mp h with e | e
        · injection e with e1 e2
          right
          refine ⟨(env.cells.lookup n).getD 0, ?_⟩
          rw [List.lookup_cons, e1]
          simp
        · exact .inl e
      · right
        rw [List.lookup_cons]
        cases hx : x == n with
        | true => exact ⟨_, rfl⟩
        | false => exact ⟨c, h⟩
    · rw [if_neg hk]
      refine cV r _ ?_
      rcases h with h | h
      · rcases List.mem_cons.mp h with e | e
        · injection e with e1 e2
          rw [← e2] at hk
          exact absurd (by rfl) hk
        · exact .inl e
      · exact .inr h
structure Vr (X : Cx) (scope : Scope) (cl : List (Str × Addr)) : Prop where
  clos : closureFor scope X.env = pure cl
  sub : ∀ x c, cl.lookup x = some c → X.env.cells.lookup x = some c
  has : ∀ x, ((relabel scope X.env).names.lookup x = some .cell ∨ (relabel scope X.env).names.lookup x = some .free) → ∃ c, cl.lookup x = some c
  kind : scope.kind = .function
  cell : ∀ y ∈ scope.names, y.2 ≠ .cell
  names : ∀ x ∈ scope.names, x.2 = .local → scope.names.lookup x.1 = some .local
theorem AIT {env : Env} {scope : Scope} (hf : ∀ y ∈ scope.names, y.2 = .free → ∃ c, env.cells.lookup y.1 = some c) : closureFor scope env = pure (Ep env scope.names []) := by
  unfold closureFor
  have key : ∀ (l : List (Str × NameKind)) (acc : List (Str × Addr)), (∀ y ∈ l, y.2 = .free → ∃ c, env.cells.lookup y.1 = some c) →
      (forIn l acc (fun (x : Str × NameKind) (r : List (Str × Addr)) => (if (x.2 == NameKind.free) = true then do let a ← cellOf env x.1; pure (ForInStep.yield ((x.1, a) :: r)) else pure (ForInStep.yield r) : Sem (ForInStep (List (Str × Addr)))))) = pure (Ep env l acc) := by
    intro l
    induction l with
    | nil => intro acc _; rfl
    | cons p r ih =>
      intro acc hf
      obtain ⟨n, k⟩ := p
      have hr : ∀ y ∈ r, y.2 = .free → ∃ c, env.cells.lookup y.1 = some c := fun y hy => hf y (BZ hy)
      rw [List.forIn_cons]
      unfold Ep
      by_cases hk : (k == NameKind.free) = true
      · obtain ⟨c, hc⟩ := hf (n, k) CW (eq_of_beq hk)
        have hc' : env.cells.lookup n = some c := hc
        have hcell : cellOf env n = pure c := by unfold cellOf; rw [hc']
        simp only [hk, if_true, hcell, hc', Option.getD_some]
        show (forIn r ((n, c) :: acc) _ : Sem _) = _
        exact ih _ hr
      · simp only [hk, if_false]
        show (forIn r acc _ : Sem _) = _
        exact ih _ hr
  have := key scope.names [] hf
  simpa using this
theorem nQ {X : Cx} {scope : Scope} (ok : X.Ok) (kind : scope.kind = .function) (cell : ∀ y ∈ scope.names, y.2 ≠ .cell) (names : ∀ x ∈ scope.names, x.2 = .local → scope.names.lookup x.1 = some .local) (free : ∀ y ∈ scope.names, y.2 = .free → X.env.kindOf y.1 = some .cell ∨ X.env.kindOf y.1 = some .free) : Vr X scope (Ep X.env scope.names []) := by
  have hf : ∀ y ∈ scope.names, y.2 = .free → ∃ c, X.env.cells.lookup y.1 = some c := fun y hy e => ok.has y.1 (free y hy e)
  refine ⟨AIT hf, fun x c h => ?_, fun x h => ?_, kind, cell, names⟩
  · rcases dO scope.names [] hf h with h1 | h1
    · simp at h1
    · exact h1
  · refine cV scope.names [] (.inl ?_)
    have hm : ∃ k, (x, k) ∈ (relabel scope X.env).names ∧ (k = .cell ∨ k = .free) := by
      rcases h with h | h
      · exact ⟨_, mem_of_lookup h, .inl rfl⟩
      · exact ⟨_, mem_of_lookup h, .inr rfl⟩
    obtain ⟨k, hm, hk⟩ := hm
    obtain ⟨⟨n, j⟩, hn, e⟩ := List.mem_map.mp hm
    have e' : (if (j == NameKind.free && X.env.scope.kind == .function && X.env.kindOf n == some .cell) = true then (n, NameKind.cell) else (n, j)) = (x, k) := e
    by_cases hc : (j == NameKind.free && X.env.scope.kind == .function && X.env.kindOf n == some .cell) = true
    · rw [if_pos hc] at e'
      injection e' with e1 e2
      have hj : j = .free := by
        rw [Bool.and_eq_true, Bool.and_eq_true] at hc
        exact eq_of_beq hc.1.1
      rw [← e1, ← hj]
      exact hn
    · rw [if_neg hc] at e'
      injection e' with e1 e2
      rcases hk with hk | hk
      · exact absurd (e2.trans hk) (cell (n, j) hn)
      · rw [← e1, ← hk, ← e2]
        exact hn
def Jv (X : Cx) (scope : Scope) : List (Nat × Str) → Prop
  | [] => True
  | p :: r => (X.N[p.1]? = some p.2 ∧ (X.env.scope.names.lookup p.2 = some .cell ∨ X.env.scope.names.lookup p.2 = some .free) ∧
      ((relabel scope X.env).names.lookup p.2 = some .cell ∨ (relabel scope X.env).names.lookup p.2 = some .free)) ∧ Jv X scope r
theorem Jv.mem {X : Cx} {scope : Scope} : ∀ {fv : List (Nat × Str)}, Jv X scope fv → ∀ p ∈ fv, X.N[p.1]? = some p.2 ∧ (X.env.scope.names.lookup p.2 = some .cell ∨ X.env.scope.names.lookup p.2 = some .free) ∧
      ((relabel scope X.env).names.lookup p.2 = some .cell ∨ (relabel scope X.env).names.lookup p.2 = some .free)
  | [], _, p, hp => by cases hp
  | q :: r, h, p, hp => by
    rcases List.mem_cons.mp hp with e | e
    · rw [e]; exact h.1
    · exact Jv.mem h.2 p e
def HB (n : Nat) (fv : List (Nat × Str)) (σ : St) : St := List.replicate n none ++ fv.map fun p => (σ[p.1]?).join
theorem ADc (n : Nat) (fv : List (Nat × Str)) (σ : St) : (HB n fv σ).length = n + fv.length := by
  simp [HB]
theorem uK {n : Nat} {fv : List (Nat × Str)} {σ : St} {i : Nat} {v : V} (h : (HB n fv σ)[i]? = some (some v)) : n ≤ i ∧ ∃ p, fv[i - n]? = some p ∧ σ[p.1]? = some (some v) := by
  unfold HB at h
  by_cases hi : i < n
  · rw [List.getElem?_append_left (by simpa using hi), List.getElem?_replicate, if_pos hi] at h
    cases h
  · have hn : n ≤ i := by omega
    rw [List.getElem?_append_right (by simpa using hn), List.length_replicate, List.getElem?_map] at h
    refine ⟨hn, ?_⟩
    cases e : fv[i - n]? with
    | none => rw [e] at h; cases h
    | some p =>
      rw [e] at h
      refine ⟨p, rfl, ?_⟩
      have h' : (σ[p.1]?).join = some v := Option.some.inj h
      cases e2 : σ[p.1]? with
      | none => rw [e2] at h'; cases h'
      | some o =>
        rw [e2] at h'
        have h2 : o = some v := h'
        rw [h2]
section
variable {X : Cx} {pins : List (Addr × Obj)} {σ : St} {H : Hp} {s : Shared} {fp : List Addr} {scope : Scope} {cl : List (Str × Addr)} {own : List Str} {fv : List (Nat × Str)}
theorem yM (I : Inv X pins σ H s) (ck : Vr X scope cl) (hf : ∀ b ∈ fp, Hm X pins H b) (hlt : ∀ b ∈ fp, b < s.heap.objs.size) : (Di X (own ++ fv.map (·.2)) scope cl fp pins s H).Ok where
  mod := I.ok.mod
  kind := ck.kind
  glob := I.ok.glob
  blt := I.ok.blt
  above := Nat.le_refl _
  inj := fun x y c hx hy => I.ok.inj x y c (ck.sub x c hx) (ck.sub y c hy)
  has := fun x h => ck.has x h
  cab := fun x c h _ => Bool.noConfusion h
  hd := I.ok.hd
  frames := I.ok.frames
  stk := .inl rfl
  exf := fun b hb => ⟨Nat.ne_of_lt (hlt b hb), fun x c h => (hf b hb).2.2.2.2.1 x c (ck.sub x c h)⟩
  bs := I.bs
  bsz := Nat.le_trans I.ok.bsz I.sz
  noex := fun b o e hb => by
    rcases (hf b hb).2.2.2.1 with h | h
    · exact I.ok.noex b o e h
    · exact absurd (Nat.lt_of_lt_of_le (Heap.lt_size e) I.ok.bsz) (Nat.not_lt.mpr h)
  exfs := fun b hb h => by
    rcases List.mem_cons.mp (I.Xo b h) with e | e
    · exact (hf b hb).2.1 e
    · exact (hf b hb).2.2.1 e
  Hn := I.stack
  frf := I.Zd
theorem AHR (I : Inv X pins σ H s) (ck : Vr X scope cl) (fo : Jv X scope fv) (hf : ∀ b ∈ fp, Hm X pins H b) (hlt : ∀ b ∈ fp, b < s.heap.objs.size) {h' : Heap} {tk : Nat} {m : Str → Option Value} (hns : h'.Ns s.heap.objs.size m) (keep : ∀ b o, s.heap.get? b = some o → h'.get? b = some o) :
    Inv (Di X (own ++ fv.map (·.2)) scope cl fp pins s H) [] (HB own.length fv σ) H { s with heap := h', toks := tk } where
  ok := yM I ck hf hlt
  os := rfl
  bare := I.bare
  base := Un.kept keep
  loc := by
    refine ⟨m, hns, fun i x v hi hv _ => ?_⟩
    obtain ⟨hn, p, hp, hσ⟩ := uK hv
    have hx : x = p.2 := by
      have hi' : (own ++ fv.map (·.2))[i]? = some x := hi
      rw [List.getElem?_append_right hn, List.getElem?_map, hp] at hi'
      exact (Option.some.inj hi').symm
    subst hx
    obtain ⟨hN, hk, hk'⟩ := fo.mem p (List.mem_of_getElem? hp)
    obtain ⟨m0, _, hl⟩ := I.loc
    obtain ⟨u, r, lk⟩ := hl p.1 p.2 v hN hσ (.inr hk)
    refine ⟨u, r, .inr ⟨hk', ?_⟩⟩
    rcases lk with ⟨lk, _⟩ | ⟨_, c, hc, ic⟩
    · have lk' : X.env.scope.names.lookup p.2 = some .local := lk
      rcases hk with hk | hk
      · rw [hk] at lk'; cases lk'
      · rw [hk] at lk'; cases lk'
    · obtain ⟨c', hc'⟩ := ck.has p.2 hk'
      have e := ck.sub _ _ hc'
      rw [hc] at e
      cases e
      obtain ⟨o, e1, e2⟩ := ic
      exact ⟨c, hc', o, keep _ _ e1, e2⟩
  cell := fun x c h => by
    obtain ⟨v, o, e1, e2⟩ := I.cell x c (ck.sub x c h)
    exact ⟨v, o, keep _ _ e1, e2⟩
  free := I.hok.fresh (Nat.le_refl _)
  freeC := fun x c h => I.freeC x c (ck.sub x c h)
  pin := fun p hp => by
    have hp' : p ∈ X.pn ++ pins := by
      have := List.mem_append.mp hp
      rcases this with h | h
      · exact h
      · cases h
    obtain ⟨e, n, nl, nf, nc⟩ := I.pin p hp'
    refine ⟨keep _ _ e, n, Nat.ne_of_lt (Heap.lt_size e), fun h => ?_, nc⟩
    rcases List.mem_cons.mp (I.Xo _ h) with z | z
    · exact nl z
    · exact nf z
  hok := I.hok.kept keep
  len := by
    rw [ADc]
    show _ = (own ++ fv.map (·.2)).length
    simp
theorem ADZ (I : Inv X pins σ H s) (hf : ∀ b ∈ fp, Hm X pins H b) {N' : List Str} {σ' : St} {H' : Hp} {s' : Shared} (I' : Inv (Di X N' scope cl fp pins s H) [] σ' H' s') : Inv X pins σ H' s' :=
  I.nJ (ch := fp) I'.os I'.base I'.hok I'.bare fun b hb => ⟨(hf b hb).2.2.2.1, (hf b hb).2.1, (hf b hb).2.2.2.2.1, (hf b hb).2.2.2.2.2⟩
theorem ABZ (I : Inv X pins σ H s) {N' : List Str} {σ' : St} {H' : Hp} {s' : Shared} (I' : Inv (Di X N' scope cl fp pins s H) [] σ' H' s') : (∃ m, s'.heap.Ns s.heap.objs.size m) ∧ H' s.heap.objs.size = none := by
  obtain ⟨m, h, _⟩ := I'.loc
  exact ⟨⟨m, h⟩, I'.free⟩
theorem AJF (I : Inv X pins σ H s) {NZ : List (Addr × Obj)} {σ1 : St} {H1 : Hp} {s1 : Shared} (I1 : Inv X NZ σ1 H1 s1) (hp : ∀ p ∈ NZ, p ∈ pins) (hn : H1 s.heap.objs.size = none) {h' : Heap} (sb : Heap.SameBut s.heap.objs.size s1.heap h') : Inv X NZ σ1 H1 { s1 with heap := h' } := by
  refine I1.turned (t' := s1.toks) (it := s.heap.objs.size) (fun b o hb e => sb.extBut b o hb e) hn (Ne.symm (Nat.ne_of_lt I.lt)) (.inr I.sz) (fun x c h => ?_) fun p hp' => ?_
  · obtain ⟨v, o, e1, _⟩ := I.cell x c h
    exact Nat.ne_of_lt (Heap.lt_size e1)
  · have hp2 : p ∈ X.pn ++ pins := by
      rcases List.mem_append.mp hp' with z | z
      · exact Dn z
      · exact By (hp p z)
    exact Nat.ne_of_lt (Heap.lt_size (I.pin p hp2).1)
end
section
variable {prog : Program} {w : World} {A : Around} {R : Result → Shared → Prop} {s : Shared}
theorem AGH {elt target iter : Expr} {ifs : List Expr} {scope : Scope} {pos : Pos} {it acc : Value} {env : Env} (I : Nat → Shared → Prop) (turn : ∀ n s, I n s → wpAny (model prog w) A (pyNext it) (fun r s₁ => match r with
      | none => R (.ok .next) s₁
      | some v => wpAny (model prog w) A (letOwnedTupleGo target it v) (fun _ s₀ => wpAny (model prog w) A (assign target env v) (fun _ s₂ =>
          wpAny (model prog w) A (forIn ifs true fun c r => if r = true then do let ok ← isTrue c env (eval c env); pure (ForInStep.yield ok) else pure (ForInStep.yield r)) (fun ok s₃ =>
            if ok = true then wpAny (model prog w) A (eval elt env) (fun x s₄ =>
              wpAny (model prog w) A (call (.builtin "list.append") [acc, x]) (fun _ s₅ => ∃ m, m < n ∧ I m s₅) (notedBy (model prog w) A env fun e s' => R (.error e) s') s₄) (notedBy (model prog w) A env fun e s' => R (.error e) s') s₃
            else ∃ m, m < n ∧ I m s₃) (notedBy (model prog w) A env fun e s' => R (.error e) s') s₂) (notedBy (model prog w) A env fun e s' => R (.error e) s') s₀) (notedBy (model prog w) A env fun e s' => R (.error e) s') s₁) (notedBy (model prog w) A env fun e s' => R (.error e) s') s)
    (n : Nat) (h : I n s) :
    codeAny (model prog w) A (.compLoop (.ListComp elt [⟨target, iter, ifs, 0⟩] scope pos) 0 it acc env) R s := by
  refine codeAny_loop rfl I (fun n s hI => ?_) n h
  show wpAny _ A ((compTurn (.ListComp elt [⟨target, iter, ifs, 0⟩] scope pos) 0 it acc env).onRaise (fun x => do noteFrame x env; theTreesLotGoes x)) _ _ s
  refine wpAny_noted ?_
  rw [compTurn_list]
  refine wpAny_bind (wpAny_standAt (wpAny_bind (wpAny_mono (turn n s hI) (fun r s₁ h₁ => ?_) fun _ _ h' => h')))
  cases r with
  | none => exact wpAny_pure h₁
  | some v =>
    refine wpAny_bind (wpAny_mono h₁ (fun _ s₀ h₀ => ?_) fun _ _ h' => h')
    refine wpAny_bind (wpAny_mono h₀ (fun _ s₂ h₂ => wpAny_bind (wpAny_mono h₂ (fun ok s₃ h₃ => ?_) fun _ _ h' => h')) fun _ _ h' => h')
    cases ok with
    | false => exact wpAny_pure ⟨rfl, h₃⟩
    | true =>
      exact wpAny_bind (wpAny_bind (wpAny_mono h₃ (fun x s₄ h₄ => wpAny_bind (wpAny_mono h₄ (fun _ s₅ h₅ => wpAny_pure (wpAny_pure ⟨rfl, h₅⟩)) fun _ _ h' => h')) fun _ _ h' => h'))
end
def Qg (X : Cx) (ifs : List Expr) (t : TT) : Prop :=
  ∀ (pins : List (Addr × Obj)) (s : Shared) (σ : St) (H : Hp) (Q : Bool → Hp → Prop), Inv X pins σ H s → t σ H Q →
    wpAny (model X.prog X.w) X.A (forIn ifs true fun c r => if r = true then do let ok ← isTrue c X.env (eval c X.env); pure (ForInStep.yield ok) else pure (ForInStep.yield r)) (TP X pins σ Q) X.xe s
def p8 : TT := fun _ H Q => Q true H
theorem ADp {X : Cx} : Qg X [] p8 := fun pins s σ H Q I h => wpAny_tests_nil ⟨H, I, h⟩
theorem AGT {X : Cx} {c : Expr} {t : TT} (h : PT X c t) : Qg X [c] t := fun pins s σ H Q I q => wpAny_tests_one (h pins s σ H Q I q)
def M7 (n : Nat) (g : TG) : Prop := ∀ v σ H Q, g v σ H Q → g v σ H fun σ' H' => (σ'.length = σ.length ∧ ∀ i, n ≤ i → σ'[i]? = σ[i]?) ∧ Q σ' H'
theorem Jc {n i : Nat} (h : i < n) : M7 n (El i) := fun v σ H Q q => ⟨⟨by simp, fun j hj => by rw [List.getElem?_set_ne (by omega)]⟩, q⟩
theorem g8 {n i j : Nat} {K : Frag} (h : i < n) (h' : j < n) : M7 n (VH K 2 (KJ (El i) (KJ (El j) Uc))) := fun v σ H Q q => by
  obtain ⟨a, xs, e, sq, l, v1, r, e1, v2, r2, e2, e3, q⟩ := q
  refine ⟨a, xs, e, sq, l, v1, r, e1, v2, r2, e2, e3, ⟨by simp, fun k hk => ?_⟩, q⟩
  rw [List.getElem?_set_ne (by omega), List.getElem?_set_ne (by omega)]
def lX (J : It) (g : TG) (tc : TT) (te : TE) (σ0 : St) (D : Addr) (Q : VK) (H : Hp) : Prop :=
  ∃ W : Nat → Nat → List V → Hp → Prop, (∃ m, W 0 m [] H) ∧ ∀ i m ys H, W i m ys H → H D = some (.lst ys) ∧
    ((J.stop i H ∧ Q (.ref D) H) ∨ (J.go i H ∧ ∃ N : List V → Hp → Prop, (∀ ys' H', N ys' H' → ∃ m', m' < m ∧ W (i + 1) m' ys' H') ∧ ∀ x H', J.yld i H x H' → g x σ0 H' fun σ2 H2 => tc σ2 H2 fun b H3 =>
      if b = true then te σ2 H3 fun v H4 => H4 D = some (.lst ys) ∧ ys.length < sizeLine ∧ N (ys ++ [v]) (upd H4 D (.lst (ys ++ [v])))
      else N ys H3))
def NP (wi : TI) (g : TG) (tc : TT) (te : TE) (n : Nat) (fv : List (Nat × Str)) : TE := fun σ H Q => wi σ H fun J H1 => ∀ D, H1 D = none → lX J g tc te (HB n fv σ) D Q (upd H1 D (.lst []))
section
variable {X : Cx} {tg elt iter : Expr} {ifs : List Expr} {scope : Scope} {own : List Str} {fv : List (Nat × Str)} {wi : TI} {g : TG} {tc : TT} {te : TE}
theorem pK {pos pos' : Pos} {use : Option (Value → Sem Unit)} {pins : List (Addr × Obj)} {s : Shared} {σ : St} {H : Hp} {Q : Value → Shared → Prop} {R : VK} {cl : List (Str × Addr)} (hc : X.calm = true) (hi : PI X tg iter wi) (I : Inv X pins σ H s) (ck : Vr X scope cl) (fo : Jv X scope fv) (gk : M7 own.length g) (bg : ∀ fp pins s H, PG (Di X (own ++ fv.map (·.2)) scope cl fp pins s H) tg g) (bt : ∀ fp pins s H, Qg (Di X (own ++ fv.map (·.2)) scope cl fp pins s H) ifs tc) (be : ∀ fp pins s H, PE (Di X (own ++ fv.map (·.2)) scope cl fp pins s H) elt te) (hs : ∀ x, foldedSetIterable iter X.env x = pure x) (h : NP wi g tc te own.length fv σ H R) (fin : ∀ D C H' s', Inv X pins σ H' s' → R (.ref D) H' → (∃ m, s'.heap.Ns C m) → H' C = none →
      (∀ NZ σ1 H1 s1 h', Inv X NZ σ1 H1 s1 → (∀ p ∈ NZ, p ∈ pins) → H1 C = none → Heap.SameBut C s1.heap h' → Inv X NZ σ1 H1 { s1 with heap := h' }) → (C ≠ X.env.locals ∧ C ∉ X.fs) →
      compPost (model X.prog X.w) X.A X.xe use Q (.ref D) C (.ok .next) s') :
    wpAny (model X.prog X.w) X.A (comprehension (.ListComp elt [⟨tg, iter, ifs, 0⟩] scope pos) scope X.env pos' (newList []) false (eval iter X.env) use) Q X.xe s := by
  refine wpAny_comprehension_free (use := use) (g := ⟨tg, iter, ifs, 0⟩) (gs := []) rfl hs ck.clos ck.kind ck.names (Bg (hi pins s σ H _ I h) fun v s1 h1 => Bg h1 fun itv s2 h2 => ?_)
  obtain ⟨it, fp, tn, J, H2, e, I2, T, st2, f2, RR⟩ := h2
  subst e
  refine wpAny_newObj_type (wpAny_newFunctionEnv ck.cell (by intro y hy; simp at hy) (fun h₁ hns₁ hsb₁ => ?_) ck.kind)
  dsimp only at hns₁ hsb₁ ⊢
  have hD := I2.fresh
  have I3 : Inv X pins σ (upd H2 s2.heap.objs.size (.lst [])) { s2 with heap := s2.heap.push { cls := .type "list", dict := none, data := .seq ([] : List Value).toArray }, toks := s2.toks } := I2.t6 (its := []) .nil (Nat.zero_le _)
  obtain ⟨W, ⟨m0, w0⟩, turn⟩ := RR _ hD
  have olt : ∀ b ∈ fp, b < s2.heap.objs.size := fun b hb => by
    obtain ⟨o, e, _⟩ := T.obj _ _ st2 b hb
    exact Heap.lt_size e
  generalize hDD : s2.heap.objs.size = Da at *
  generalize hH3 : upd H2 Da (.lst []) = H3 at *
  have f3 : ∀ b ∈ fp, Hm X pins H3 b := fun b hb => ⟨by rw [← hH3, Bs (Nat.ne_of_lt (olt b hb))]; exact (f2 b hb).1, (f2 b hb).2⟩
  generalize hs3 : ({ s2 with heap := s2.heap.push { cls := .type "list", dict := none, data := .seq ([] : List Value).toArray }, toks := s2.toks } : Shared) = s3 at *
  have e3 : s2.heap.push { cls := .type "list", dict := none, data := .seq ([] : List Value).toArray } = s3.heap := by rw [← hs3]
  rw [e3] at hns₁ hsb₁ ⊢
  have up2 : ∀ b o, s2.heap.get? b = some o → s3.heap.get? b = some o := fun b o e => by rw [← e3]; exact Heap.get?_push_of_some _ e
  have hlt : ∀ b ∈ fp, b < s3.heap.objs.size := fun b hb => by
    obtain ⟨o, e, _⟩ := T.obj _ _ st2 b hb
    exact Heap.lt_size (up2 _ _ e)
  have keep : ∀ b o, s3.heap.get? b = some o → h₁.get? b = some o := fun b o e => hsb₁.extBut b o (Nat.ne_of_lt (Heap.lt_size e)) (Heap.get?_push_of_some _ e)
  have stat : ∀ {H' : Hp}, (∀ b ∈ fp, H' b = none) → ∀ b ∈ fp, Hm (Di X (own ++ fv.map (·.2)) scope cl fp pins s3 H3) [] H' b := fun {H'} hn b hb => by
    have ok := yM (own := own) (fv := fv) I3 ck f3 hlt
    refine ⟨hn b hb, (ok.exf b hb).1, ok.exfs b hb, .inl hb, (ok.exf b hb).2, fun p hp => ?_⟩
    have hp' : p ∈ X.pn ++ pins := by
      rcases List.mem_append.mp hp with z | z
      · exact z
      · cases z
    exact (f3 b hb).2.2.2.2.2 p hp'
  have loop : ∀ s4 : Shared, Inv (Di X (own ++ fv.map (·.2)) scope cl fp pins s3 H3) [] (HB own.length fv σ) H3 s4 → tn 0 s4.heap →
      codeAny (model X.prog X.w) X.A (.compLoop (.ListComp elt [⟨tg, iter, ifs, 0⟩] scope pos) 0 (.ref it) (.ref Da) (compEnvC scope cl s3.heap.objs.size X.env)) (compPost (model X.prog X.w) X.A X.xe use Q (.ref Da) s3.heap.objs.size) s4 := by
    intro s4 I4 st4
    refine AGH (fun n s' => ∃ i ys H', Inv (Di X (own ++ fv.map (·.2)) scope cl fp pins s3 H3) [] (HB own.length fv σ) H' s' ∧ tn i s'.heap ∧ (∀ b ∈ fp, H' b = none) ∧ W i n ys H') ?_ m0
      ⟨0, [], H3, I4, st4, fun b hb => (f3 b hb).1, w0⟩
    rintro n s5 ⟨i, ys, H5, I5, st5, fr5, w5⟩
    obtain ⟨hDl, alt⟩ := turn i n ys H5 w5
    rcases alt with ⟨stop, qn⟩ | ⟨go, NN, hNN, step⟩
    · refine Bg (T.done (Di X (own ++ fv.map (·.2)) scope cl fp pins s3 H3) rfl rfl rfl hc i [] s5 _ H5 _ I5 (stat fr5) st5 stop) fun r s6 ⟨hr, I6⟩ => ?_
      subst hr
      have hx := ABZ I3 I6
      refine fin Da _ H5 s6 (ADZ I3 f3 I6) qn hx.1 hx.2 (fun NZ σ1 H1 s1 h' J1 hp1 hn1 sb => AJF I3 J1 hp1 hn1 sb) ⟨Ne.symm (Nat.ne_of_lt I3.lt), I3.xV (Nat.le_refl _)⟩
    · refine Bg (T.item (Di X (own ++ fv.map (·.2)) scope cl fp pins s3 H3) rfl rfl rfl hc i [] s5 _ H5 _ I5 (stat fr5) st5 go) fun r s6 ⟨u, hr, h6⟩ => ?_
      subst hr
      refine Bg h6 fun _ s7 ⟨x, H7, I7, r7, y7, st7, fr7⟩ => ?_
      have I7' := I7.pinned (stat fr7) (T.obj _ _ st7)
      refine wpAny_mono (bg fp pins s3 H3 _ s7 _ H7 x u _ I7' r7 (gk _ _ _ _ (step x H7 y7))) (fun _ s8 ⟨σ8, H8, I8, ⟨kl, kk⟩, q8⟩ => ?_) (fun _ _ f => f.elim)
      have weak : ∀ {H9 : Hp} {s9 : Shared}, Inv (Di X (own ++ fv.map (·.2)) scope cl fp pins s3 H3) ([] ++ VF fp s7.heap) σ8 H9 s9 →
          Inv (Di X (own ++ fv.map (·.2)) scope cl fp pins s3 H3) [] (HB own.length fv σ) H9 s9 ∧ tn (i + 1) s9.heap ∧ (∀ b ∈ fp, H9 b = none) := fun {H9 s9} I9 => by
        refine ⟨I9.Ry.weak kl.symm (fun j v hj => ?_), T.keep _ _ _ st7 fun b hb o e => (I9.pin (b, o) (By (By (YZ hb e)))).1, fun b hb => ?_⟩
        · rw [kk j (uK hj).1]
          exact hj
        · obtain ⟨o, e, d⟩ := T.obj _ _ st7 b hb
          exact (I9.pin (b, o) (By (By (YZ hb e)))).2.1
      refine wpAny_mono (bt fp pins s3 H3 _ s8 σ8 H8 _ I8 q8) (fun b s9 ⟨H9, I9, q9⟩ => ?_) (fun _ _ f => f.elim)
      cases b with
      | false =>
        have q9' : NN ys H9 := q9
        obtain ⟨m', hm, w9⟩ := hNN _ _ q9'
        have wk := weak I9
        rw [if_neg Bool.false_ne_true]
        exact ⟨m', hm, i + 1, ys, H9, wk.1, wk.2.1, wk.2.2, w9⟩
      | true =>
        rw [if_pos rfl]
        rw [if_pos rfl] at q9
        refine wpAny_mono (be fp pins s3 H3 _ s9 σ8 H9 _ I9 q9) (fun y s10 ⟨v10, H10, I10, r10, d10, l10, n10⟩ => ?_) (fun _ _ f => f.elim)
        obtain ⟨m', hm, w10⟩ := hNN _ _ n10
        refine wpAny_mono (tE (X := Di X (own ++ fv.map (·.2)) scope cl fp pins s3 H3) _ s10 σ8 H10 (.ref Da) [v10] (.ref Da) [y] (fun _ H11 => H11 = upd H10 Da (.lst (ys ++ [v10]))) I10 rfl (.cons r10 .nil) ⟨Da, ys, v10, rfl, rfl, d10, l10, rfl⟩)
          (fun _ s11 ⟨v11, H11, I11, _, e11⟩ => ?_) (fun _ _ f => f.elim)
        subst e11
        have wk := weak I11
        exact ⟨m', hm, i + 1, ys ++ [v10], _, wk.1, wk.2.1, wk.2.2, w10⟩
  have I4 : Inv (Di X (own ++ fv.map (·.2)) scope cl fp pins s3 H3) [] (HB own.length fv σ) H3 { s3 with heap := h₁, toks := s3.toks + ([] : List (Str × Value)).length } := AHR I3 ck fo f3 hlt hns₁ keep
  have st4 : tn 0 h₁ := T.keep _ _ _ st2 fun b hb o e => keep b o (up2 b o e)
  have hfin : ∀ s4 : Shared, s4 = { s3 with heap := h₁, toks := s3.toks + ([] : List (Str × Value)).length } →
      codeAny (model X.prog X.w) X.A (.compStart (.ListComp elt [⟨tg, iter, ifs, 0⟩] scope pos) 0 (.ref it) (.ref Da) (compEnvC scope cl s3.heap.objs.size X.env)) (compPost (model X.prog X.w) X.A X.xe use Q (.ref Da) s3.heap.objs.size) s4 := by
    rintro s4 rfl
    refine codeAny_compStart_list (loop _ I4 st4) (T.self _ 0 _ _ _ st4 (loop _ I4 st4))
  refine hfin _ ?_
  rw [← hs3]
def freeOk (X : Cx) (scope : Scope) : Bool := scope.names.all fun y => !(y.2 == NameKind.free) || (X.env.scope.names.lookup y.1 == some .cell) || (X.env.scope.names.lookup y.1 == some .free)
theorem freeOk.all {X : Cx} {scope : Scope} (h : freeOk X scope = true) : ∀ y ∈ scope.names, y.2 = .free → X.env.kindOf y.1 = some .cell ∨ X.env.kindOf y.1 = some .free := fun y hy e => by
  have z := List.all_eq_true.mp h y hy
  rw [Bool.or_eq_true, Bool.or_eq_true] at z
  rcases z with (z | z) | z
  · rw [e] at z
    exact absurd z (by decide)
  · exact .inl (eq_of_beq z)
  · exact .inr (eq_of_beq z)
theorem Jh {X : Cx} {scope : Scope} (h : ∀ y ∈ scope.names, y.2 ≠ .free) : freeOk X scope = true := List.all_eq_true.mpr fun y hy => by
  have z : (y.2 == NameKind.free) = false := by simpa using h y hy
  rw [z]
  rfl
theorem ABp {pos : Pos} (own : List Str) (fv : List (Nat × Str)) (hc : X.calm = true) (hi : PI X tg iter wi) (fo : Jv X scope fv) (gk : M7 own.length g) (bg : ∀ fp pins s H, PG (Di X (own ++ fv.map (·.2)) scope (Ep X.env scope.names []) fp pins s H) tg g) (bt : ∀ fp pins s H, Qg (Di X (own ++ fv.map (·.2)) scope (Ep X.env scope.names []) fp pins s H) ifs tc) (be : ∀ fp pins s H, PE (Di X (own ++ fv.map (·.2)) scope (Ep X.env scope.names []) fp pins s H) elt te) (kind : scope.kind = .function) (cell : ∀ y ∈ scope.names, y.2 ≠ .cell) (names : ∀ x ∈ scope.names, x.2 = .local → scope.names.lookup x.1 = some .local) (free : freeOk X scope = true) (hs : ∀ x, foldedSetIterable iter X.env x = pure x := by intro _; rfl) :
    PE X (.ListComp elt [⟨tg, iter, ifs, 0⟩] scope pos) (NP wi g tc te own.length fv) := by
  intro pins s σ H Q I h
  rw [eval_ListComp]
  refine pK (use := none) hc hi I (nQ I.ok kind cell names (freeOk.all free)) fo gk bg bt be hs h fun D C H' s' I' q ⟨m, hm⟩ hn forget _ => ?_
  exact ⟨m, hm, fun h' sb => ⟨.ref D, H', forget pins σ H' s' h' I' (fun _ z => z) hn sb, rfl, q⟩⟩
theorem xG {pos spos py : Pos} {i : Nat} {y : Str} (own : List Str) (fv : List (Nat × Str)) (hN : X.N.Nodup) (hy : X.N[i]? = some y) (hx : Loc X.env.scope y) (hc : X.calm = true) (hi : PI X tg iter wi) (fo : Jv X scope fv) (gk : M7 own.length g) (bg : ∀ fp pins s H, PG (Di X (own ++ fv.map (·.2)) scope (Ep X.env scope.names []) fp pins s H) tg g) (bt : ∀ fp pins s H, Qg (Di X (own ++ fv.map (·.2)) scope (Ep X.env scope.names []) fp pins s H) ifs tc) (be : ∀ fp pins s H, PE (Di X (own ++ fv.map (·.2)) scope (Ep X.env scope.names []) fp pins s H) elt te) (kind : scope.kind = .function) (cell : ∀ y ∈ scope.names, y.2 ≠ .cell) (names : ∀ x ∈ scope.names, x.2 = .local → scope.names.lookup x.1 = some .local) (free : freeOk X scope = true) (hsw : swapsWith (.ListComp elt [⟨tg, iter, ifs, 0⟩] scope pos) (some (.Name y py)) spos.line X.env = pure true) (hs : ∀ x, foldedSetIterable iter X.env x = pure x := by intro _; rfl) (hf : X.fn y = true ∨ X.env.scope.names.lookup y = some .local := by first | exact Or.inl rfl | exact Or.inr rfl) :
    PS X (.Assign [.Name y py] (.ListComp elt [⟨tg, iter, ifs, 0⟩] scope pos) spos) (Gg (NP wi g tc te own.length fv) (El i)) := by
  intro pins s σ H D I h
  rw [exec_Assign_Name_used _ _ _ _ hsw]
  refine wpAny_bind (wpAny_standAt (wpAny_bind ?_))
  show wpAny _ X.A (do let _ ← comprehension (.ListComp elt [⟨tg, iter, ifs, 0⟩] scope pos) scope X.env _ (newList []) false (eval iter X.env) (some (assign (.Name y py) X.env))) _ _ s
  refine wpAny_bind (wpAny_mono (pK (use := some (assign (.Name y py) X.env)) (Q := fun _ s' => SP X pins D .next s') hc hi I (nQ I.ok kind cell names (freeOk.all free)) fo gk bg bt be hs h
    fun Da C H' s' I' q hm hn forget hC => ?_) (fun _ s' hq => wpAny_pure (wpAny_pure hq)) fun _ _ e => e)
  obtain ⟨m, o, es, ep, e, d, r⟩ := hm
  have I2 : Inv X (pins ++ [(C, o)]) σ H' s' := I'.fY fun p hp => by
    rcases List.mem_append.mp hp with z | z
    · exact I'.pin p (By z)
    · rw [List.mem_singleton.mp z]
      exact ⟨e, hn, hC.1, hC.2, fun v z => by rw [d] at z; cases z⟩
  refine Bg (Ko hN hy hx hf _ s' σ H' (.ref Da) (.ref Da) _ I2 rfl q) fun _ s'' ⟨σ2, H2, I3, q2⟩ => ?_
  have pc := I3.pin (C, o) (By (By (List.mem_singleton.mpr rfl)))
  exact ⟨m, ⟨o, es, ep, pc.1, d, r⟩, fun h' sb => ⟨σ2, H2, forget pins σ2 H2 s'' h' I3.Ry (fun _ z => z) pc.2.1 sb, q2⟩⟩
theorem xK {J : It} {D : Addr} {n : Nat} {σ0 : St} {H : Hp} {Q : VK} (Pv : Nat → List V → Hp → Prop) (h0 : Pv 0 [] H) (hD : ∀ i ys H, Pv i ys H → H D = some (.lst ys)) (hgo : ∀ i ys H, i < n → Pv i ys H → J.go i H) (hs : ∀ i ys H x H', i < n → Pv i ys H → J.yld i H x H' → g x σ0 H' fun σ2 H2 => tc σ2 H2 fun b H3 =>
      if b = true then te σ2 H3 fun v H4 => H4 D = some (.lst ys) ∧ ys.length < sizeLine ∧ Pv (i + 1) (ys ++ [v]) (upd H4 D (.lst (ys ++ [v]))) else Pv (i + 1) ys H3)
    (hd : ∀ ys H, Pv n ys H → J.stop n H ∧ Q (.ref D) H) :
    lX J g tc te σ0 D Q H := by
  refine ⟨fun i m ys H => m = n - i ∧ i ≤ n ∧ Pv i ys H, ⟨n, by simp, Nat.zero_le _, h0⟩, ?_⟩
  rintro i m ys H ⟨rfl, hi, p⟩
  refine ⟨hD i ys H p, ?_⟩
  by_cases hlt : i < n
  · exact .inr ⟨hgo i ys H hlt p, Pv (i + 1), fun ys' H' z => ⟨n - (i + 1), by omega, rfl, hlt, z⟩, fun x H' y => hs i ys H x H' hlt p y⟩
  · have e : i = n := by omega
    subst e
    exact .inl (hd ys H p)
end
end L2
namespace L2
open PySem PySem.Spec PyProof.Rows
structure Callee (P : Program) (w : World) (K : Frag) (mg : Str → Option Value) (base : Heap) (k : Nat) (x : Str) (ps : List Str) (sp : Sp) : Prop where
  ex : ∃ (f : Addr) (fd : FuncData), Ei P w K mg base GZ k f fd ps sp ∧ mg x = some (.ref f) ∧ keepIn K (.ref f) = true ∧ Binds K fd ps [] ∧ ∃ o, K.lookup f = some o ∧ o.data = .func fd
theorem Callee.mono {P : Program} {w : World} {K : Frag} {mg : Str → Option Value} {base : Heap} {j k : Nat} {x : Str} {ps : List Str} {sp : Sp} (C : Callee P w K mg base j x ps sp) (h : j ≤ k) : Callee P w K mg base k x ps sp := by
  obtain ⟨f, fd, F, r⟩ := C.ex
  exact ⟨f, fd, F.mono h, r⟩
theorem Callee.imp {P : Program} {w : World} {K : Frag} {mg : Str → Option Value} {base : Heap} {k : Nat} {x : Str} {ps : List Str} {sp sp' : Sp} (C : Callee P w K mg base k x ps sp) (h : ∀ vs H Q E, sp' vs H Q E → sp vs H Q E) : Callee P w K mg base k x ps sp' := by
  obtain ⟨f, fd, F, r⟩ := C.ex
  exact ⟨f, fd, F.imp h, r⟩
structure Def (K : Frag) (mg : Str → Option Value) (x : Str) (st : Stmt) (ps : List Str) : Prop where
  ex : ∃ (f : Addr) (fd : FuncData), QQ K x x st f fd ∧ mg x = some (.ref f) ∧ Binds K fd ps [] ∧ ∀ (s : Shared) (us : List Value), us.length = ps.length → BindsTo s fd ⟨us, []⟩ (ps.zip us)
section
variable {P : Program} {w : World} {K : Frag} {mg : Str → Option Value} {base : Heap}
theorem Def.ok {x : Str} {st : Stmt} {N ps : List Str} {k : Nat} {sp : Sp} (D : Def K mg x st ps) (S : Bk N ps (BL st)) (len : ∀ vs H Q E, sp vs H Q E → vs.length = ps.length) (hbody : ∀ (f : Addr) (cdv : Value) (A : Around) (outer : List Env) (s : Shared) (H : Hp) (vs : List V) (Q : VK) (E : XK), CV k (A.deeper (envOfC x (BL st) s.heap.objs.size f cdv)) → sp vs H Q E →
      ∃ t, Ez (Dh GZ P w K mg base N x (BL st) f cdv A outer s H E).Ds (Df st) t ∧ t { nx := fun _ H' => Q .non H', rt := Q } (start N vs) H) : Callee P w K mg base (k + 1) x ps sp := by
  obtain ⟨f, fd, F, m, b, _⟩ := D.ex
  obtain ⟨oc, od, kV, doc, pm, an, cdv, ct, osl, _, lk, _⟩ := F.ex
  exact ⟨f, fd, F.ok S len (fun cdv A outer s H vs Q E hr h => hbody f cdv A outer s H vs Q E hr h), m, F.kp, b, _, lk, rfl⟩
theorem AJR {x : Str} {st : Stmt} {k : Nat} {sp : Sp} {fa : Addr} (D : Def K mg x st ["script"]) (hfa : mg x = some (.ref fa)) (C : ∀ base : Heap, K.In base → base.Ns mainGlobals mg → Callee P w K mg base k x ["script"] sp) :
    ∃ fd : FuncData, (∀ (s : Shared) (u : Value), BindsTo s fd ⟨[u], []⟩ [("script", u)]) ∧ ∀ base : Heap, K.In base → base.Ns mainGlobals mg → Ei P w K mg base GZ k fa fd ["script"] sp := by
  obtain ⟨f, fd, F, m, b, bt⟩ := D.ex
  obtain ⟨oc, od, kV, doc, pm, an, cdv, ct, osl, _, lk, _⟩ := F.ex
  refine ⟨fd, fun s u => bt s [u] rfl, fun base kb nb => ?_⟩
  obtain ⟨f', fd', F', m', _, _, o, lk', e⟩ := (C base kb nb).ex
  rw [m] at hfa
  cases hfa
  rw [m] at m'
  cases m'
  rw [lk] at lk'
  cases lk'
  cases e
  exact F'
theorem AFn {h : Heap} {x : Str} {st : Stmt} {ps : List Str} {f : Addr} {oc : Value} {od an : Option Addr} {osl : Array (Option Value)} {kV doc pm cdv ct : Value} (X : K.In h) (G : h.Ns mainGlobals mg) (hb : ∀ (kV doc pm : Value) (an : Option Addr) (cdv ct : Value) (us : List Value), us.length = ps.length → bindArgs (fnOf x x (Fx st) (Df st) (BL st) .none kV doc pm an cdv ct) ⟨us, []⟩ = pure (ps.zip us)) (a : nsIn K mainGlobals x = some (some (.ref f))) (l : K.lookup f = some ⟨oc, od, .func (fnOf x x (Fx st) (Df st) (BL st) .none kV doc pm an cdv ct), osl⟩) (c : codeIn K cdv x = true) (k : keepIn K (.ref f) = true) : Def K mg x st ps := by
  have F := vV (st := st) l c k
  exact ⟨f, _, F, mg_of X G a, F.binds hb, fun s us hl => .of_eq (hb _ _ _ _ _ _ us hl)⟩
end
section
variable {X : Cx} {k : Nat} {x : Str} {ps : List Str} {sp : Sp} {p pos : Pos} {e : Expr} {es : List Expr} {t : TA}
theorem Yd (C : Callee X.prog X.w X.K X.mg X.base k x ps sp) (hr : CV k X.A) (hg : Gl X x) (ha : PA X (e :: es) t) (hdb : (x == ("__debug__" : Str)) = false := by decide)
    (hst : starEach (e :: es) X.env = (false, eval e X.env) :: starEach es X.env := by rfl) (hpl : (backTo pos (starEach es X.env)).any (·.1) = false := by rfl) : PE X (.Call (.Name x p) (e :: es) [] pos) (Qz sp [] E0 t) := by
  obtain ⟨f, fd, F, m, kp, b, _⟩ := C.ex
  exact AIu F hr hg m kp b .nil Nr ha hdb hst hpl
end
section
variable {X : Cx}
inductive BT (H : Hp) : V → String → Prop where
  | non : BT H .non "NoneType"
  | bl (x : Bool) : BT H (.bl x) "bool"
  | int (i : Int) : BT H (.int i) "int"
  | str (x : Str) : BT H (.str x) "str"
  | lst {a : Addr} {xs : List V} (e : H a = some (.lst xs)) : BT H (.ref a) "list"
  | tup {a : Addr} {xs : List V} (e : H a = some (.tup xs)) : BT H (.ref a) "tuple"
  | dct {a : Addr} {kvs : List (Key × V)} (e : H a = some (.dK kvs)) : BT H (.ref a) "dict"
def Jl (T U : String) : Bool := T == U || (T == "bool" && U == "int")
theorem Ph (K : Frag) (T U : String) (hT : T ∈ ["NoneType", "bool", "int", "str", "list", "tuple", "dict"]) (hU : U ∈ ["bool", "int", "str", "list", "tuple"]) : kitOne K (.type T) (.type U) = some (Jl T U) := by
  simp only [List.mem_cons, List.mem_nil_iff, or_false] at hT hU
  rcases hT with rfl | rfl | rfl | rfl | rfl | rfl | rfl <;> rcases hU with rfl | rfl | rfl | rfl | rfl <;> with_unfolding_all rfl
end
structure Pg (K : Frag) (C : Addr) : Prop where
  ns : nsIn K mainGlobals "Keeper" = some (some (.ref C))
  cl : Gq K C
  ha : findIn K (.ref C) "__class__" = some (some (.builtin "object.__class__"))
  hn : PySem.W.specialIn K (.builtin "object.__class__") "__get__" = some (some (.builtin "getset_descriptor.__get__"))
  htk : PySem.W.takesIn K (.builtin "object.__class__") = some true
  hm : mroIn K C (.type "object") = some true
  ki : ∀ U ∈ ["bool", "int", "str", "list", "tuple"], kitOne K (.ref C) (.type U) = some false
def Dq (ks : List Str) (ds : List PyData) : List (PyData × PyData) := (.none, .none) :: (ks.zip ds).map fun p => (.str p.1, p.2)
mutual
inductive Rep (K : Frag) (H : Hp) : V → PyData → Prop
  | non : Rep K H .non .none
  | bl (b : Bool) : Rep K H (.bl b) (.bool b)
  | int (i : Int) : Rep K H (.int i) (.int i)
  | str (x : Str) : Rep K H (.str x) (.str x)
  | lst {a : Addr} {xs : List V} {ds : List PyData} : Bl K H a xs → BP K H xs ds → Rep K H (.ref a) (.list ds)
  | tup {a : Addr} {xs : List V} {ds : List PyData} : Dt K H a xs → BP K H xs ds → Rep K H (.ref a) (.tuple ds)
  | dic {a : Addr} {kvs : List (Key × V)} : H a = some (.dK kvs) → Rep K H (.ref a) (.dict [])
  | obj {a C dx : Addr} {fs : List (Str × V)} {ds : List PyData} {kvs : List (PyData × PyData)} : Pg K C → H a = some (.ins C dx fs) → BP K H (fs.map (·.2)) ds → kvs = Dq (fs.map (·.1)) ds → Rep K H (.ref a) (.dict kvs)
inductive BP (K : Frag) (H : Hp) : List V → List PyData → Prop
  | nil : BP K H [] []
  | cons {x : V} {d : PyData} {xs : List V} {ds : List PyData} : Rep K H x d → BP K H xs ds → BP K H (x :: xs) (d :: ds)
end
theorem Ao.Li {K : Frag} {H H' : Hp} {a : Addr} {xs : List V} (e : Ao H H') (h : Dt K H a xs) : Dt K H' a xs := by
  rcases h with (h | ⟨o, h⟩) | h
  · exact .inl (.inl (e _ _ h))
  · exact .inl (.inr ⟨o, e _ _ h⟩)
  · exact .inr h
theorem Ao.new {H : Hp} {p : Addr} {o : HO} (h : H p = none) : Ao H (upd H p o) := fun b u e => by
  rw [Bs (Ey e h)]
  exact e
mutual
theorem Rep.mono {K : Frag} {H H' : Hp} (e : Ao H H') : ∀ {x : V} {d : PyData}, Rep K H x d → Rep K H' x d
  | _, _, .non => .non
  | _, _, .bl b => .bl b
  | _, _, .int i => .int i
  | _, _, .str x => .str x
  | _, _, .lst q r => .lst (e.seq q) (BP.mono e r)
  | _, _, .tup q r => .tup (e.Li q) (BP.mono e r)
  | _, _, .dic q => .dic (e _ _ q)
  | _, _, .obj k q r z => .obj k (e _ _ q) (BP.mono e r) z
theorem BP.mono {K : Frag} {H H' : Hp} (e : Ao H H') : ∀ {xs : List V} {ds : List PyData}, BP K H xs ds → BP K H' xs ds
  | _, _, .nil => .nil
  | _, _, .cons q r => .cons (Rep.mono e q) (BP.mono e r)
end
section
variable {X : Cx} {pins : List (Addr × Obj)} {σ : St} {H : Hp} {s : Shared}
mutual
theorem Rep.reads (I : Inv X pins σ H s) : ∀ {x : V} {d : PyData}, Rep X.K H x d → d.canLay0 = true → ∀ {u : Value}, RelV x u → ∃ as, Reads s.heap u d as
  | _, _, .non, _, _, r => by cases r; exact ⟨_, .none⟩
  | _, _, .bl b, _, _, r => by cases r; exact ⟨_, .bool b⟩
  | _, _, .int i, _, _, r => by obtain ⟨t, rfl⟩ := r; exact ⟨_, .int i t⟩
  | _, _, .str x, _, _, r => by obtain ⟨t, rfl⟩ := r; exact ⟨_, .str x t⟩
  | _, _, .lst q r, h, _, rv => by
    cases rv
    obtain ⟨its, v, pl, _⟩ := I.list q
    obtain ⟨as, z⟩ := BP.reads I r h v
    obtain ⟨o, n, e, c, _, d⟩ := pl
    exact ⟨_, reads_list_at e c d (by simpa using z)⟩
  | _, _, .tup q r, h, _, rv => by
    cases rv
    obtain ⟨its, v, pl, _⟩ := I.tuple q
    obtain ⟨as, z⟩ := BP.reads I r h v
    obtain ⟨o, e, c, n, d⟩ := pl
    exact ⟨_, reads_tuple_at e c d (by simpa using z)⟩
  | _, _, .dic _, h, _, _ => by cases h
  | _, _, .obj _ _ _ _, h, _, _ => by cases h
theorem BP.reads (I : Inv X pins σ H s) : ∀ {xs : List V} {ds : List PyData}, BP X.K H xs ds → PyData.canLayAll0 ds = true → ∀ {us : List Value}, Vals xs us → ∃ as, ReadsAll s.heap us ds as
  | _, _, .nil, _, _, .nil => ⟨_, .nil⟩
  | _, _, .cons q r, h, _, .cons v vs => by
    obtain ⟨h1, h2⟩ := Bool.and_eq_true_iff.mp h
    obtain ⟨as, z⟩ := Rep.reads I q h1 v
    obtain ⟨bs, z2⟩ := BP.reads I r h2 vs
    exact ⟨_, .cons z z2⟩
end
end
section
variable {X : Cx}
theorem ACP (hu : X.A.units + 64 < cLine) : EY X (compareOp .Eq) (fun x y H Q => ∃ d e, Rep X.K H x d ∧ Rep X.K H y e ∧ SeqAt.shaped d = true ∧ SeqAt.shaped e = true ∧ Q (.bl (PyData.eqv d e)) H) := by
  intro pins s σ H x y v u Q I rx ry h
  obtain ⟨d, e, rd, re, sd, se, q⟩ := h
  obtain ⟨as, ra⟩ := rd.reads I (Bool.and_eq_true_iff.mp sd).1 rx
  obtain ⟨bs, rb⟩ := re.reads I (Bool.and_eq_true_iff.mp se).1 ry
  exact eq_dataH ra rb sd se hu ⟨.bl _, H, I, rfl, q⟩
theorem AIJ (hu : X.A.units + 64 < cLine) : EY X (compareOp .NotEq) (fun x y H Q => ∃ d e, Rep X.K H x d ∧ Rep X.K H y e ∧ SeqAt.shaped d = true ∧ SeqAt.shaped e = true ∧ Q (.bl (!PyData.eqv d e)) H) := by
  intro pins s σ H x y v u Q I rx ry h
  obtain ⟨d, e, rd, re, sd, se, q⟩ := h
  obtain ⟨as, ra⟩ := rd.reads I (Bool.and_eq_true_iff.mp sd).1 rx
  obtain ⟨bs, rb⟩ := re.reads I (Bool.and_eq_true_iff.mp se).1 ry
  exact ne_dataH ra rb sd se hu ⟨.bl _, H, I, rfl, q⟩
theorem Bv {A : Around} {k : Nat} (hr : CV k A) : A.units + 64 < cLine := hr.units
theorem ACQ : Hj X (.builtin "all") (fun xs H Q => X.A.handled = none ∧ ∃ (a : Addr) (bs : List Bool), xs = [.ref a] ∧ Bl X.K H a (bs.map V.bl) ∧ Q (.bl (bs.all id)) H) := by
  intro pins s σ H xs us Q I r h
  obtain ⟨hh, a, bs, rfl, hq, q⟩ := h
  obtain ⟨u, rfl, rx⟩ := vals1 r
  cases rx
  obtain ⟨its, v, pl, hz⟩ := I.list hq
  have hl := v.length
  refine call_all_walk (wpAny_pyIter_list pl.isList ?_)
  have hlt : a < s.heap.objs.size := by obtain ⟨_, e, _⟩ := pl.isList; exact Heap.lt_size e
  refine ⟨s.heap.objs.size, _, _, _, _, _, fun i => bs.getD i true, rfl, Walks.list (A := X.A.in1) hh s.heap.objs.size a (Nat.ne_of_lt hlt) its.toArray, ⟨⟨_, Heap.get?_push_size _ rfl, rfl, rfl⟩, pl.isList.push _⟩, ?_, fun h' tk hk => ?_⟩
  · intro i w' s' Q' E' hP hQ
    have hP' : its[i]? = some w' := by simpa using hP
    have hi : i < bs.length := by
      have := (List.getElem?_eq_some_iff.mp hP').1
      rw [List.length_map] at hl
      omega
    obtain ⟨w2, e2, r2⟩ := v.get (i := i) (x := .bl bs[i]) (by simp [hi])
    rw [hP'] at e2
    cases e2
    obtain rfl : w' = Value.bool bs[i] := r2
    have e3 : bs.getD i true = bs[i] := by simp [hi]
    have hQ2 : Q' (bs.getD i true) s' := hQ
    rw [e3] at hQ2
    exact wpAny_truthy_bool hQ2
  · have e : (List.range its.toArray.size).all (fun i => bs.getD i true) = bs.all id := by
      rw [List.length_map] at hl
      rw [List.size_toArray, ← hl, Bool.eq_iff_iff, List.all_eq_true, List.all_eq_true]
      constructor
      · intro z b hb
        obtain ⟨i, hi, rfl⟩ := List.mem_iff_getElem.mp hb
        have := z i (List.mem_range.mpr hi)
        simpa [hi] using this
      · intro z i hi
        have hi' := List.mem_range.mp hi
        have := z bs[i] (List.getElem_mem hi')
        simpa [hi'] using this
    rw [e]
    exact ⟨.bl _, H, I.kept (t' := tk) (fun b o e => hk b o (by simp; exact Nat.ne_of_lt (Heap.lt_size e)) (Heap.get?_push_of_some _ e)), rfl, q⟩
end
end L2
namespace L2
open PySem PySem.Spec PyProof.Rows
theorem AKN (a b c d : Int) : PyData.eqv (.tuple [.int a, .int b]) (.tuple [.int c, .int d]) = decide (a = c ∧ b = d) := by
  simp [PyData.eqv, PyData.eqvAll]
  by_cases h1 : a = c <;> by_cases h2 : b = d <;> simp [h1, h2]
end L2
namespace L2
open PySem PySem.Spec PyProof.Rows
section
variable {X : Cx} {pins : List (Addr × Obj)} {σ : St} {H : Hp} {s : Shared} {h' : Heap}
theorem Inv.rT {t' : Nat} {ch : List Addr} (I : Inv X pins σ H s) (hch : ∀ b ∈ ch, Hm X pins H b) (k : ∀ b u, b ∉ ch → s.heap.get? b = some u → h'.get? b = some u) : Inv X pins σ H { s with heap := h', toks := t' } := by
  have nch : ∀ b u, H b = some u → b ∉ ch := fun b u e z => by rw [(hch b z).1] at e; cases e
  refine I.step (g' := s.gens) (d' := s.drawn) (ch := ch) (fun b hb => ⟨(hch b hb).2.2.2.1, (hch b hb).2.1, (hch b hb).2.2.2.2.1, (hch b hb).2.2.2.2.2⟩) (fun b o _ _ hc e _ => k b o hc e) (fun b o _ _ hc e _ => ⟨o.slots, k b o hc e⟩) (fun _ _ _ _ n => n)
    (fun b o hc e => ⟨o, k b o hc e⟩) (fun _ _ e => e) (fun _ _ _ e => e) (fun b ps e => ⟨#[], by rw [e]; simp⟩) (fun m hm => ?_) (fun b u e => ?_) I.bare
  · obtain ⟨o, es, ep, ho, r⟩ := hm
    exact ⟨o, es, ep, k _ o (fun z => (hch _ z).2.1 rfl) ho, r⟩
  · refine (I.hok b u e).KZ (fun c v hc q => k c v ?_ q) (fun _ q => q) fun _ _ q => q
    rcases hc with z | z
    · rw [z]; exact nch b u e
    · exact nch c _ z
theorem Inv.tL {t' : Nat} {ch : List Addr} {a : Addr} {o : HO} (I : Inv X pins σ H s) (hch : ∀ b ∈ ch, Hm X pins H b) (k : ∀ b u, b ∉ ch → s.heap.get? b = some u → h'.get? b = some u) (hp : s.heap.objs.size ≤ a) (new : Es X.prog X.w (upd H a o) h' a o) : Inv X pins σ (upd H a o) { s with heap := h', toks := t' } := by
  have nch : ∀ b u, H b = some u → b ∉ ch := fun b u e z => by rw [(hch b z).1] at e; cases e
  have hn : H a = none := I.hok.fresh hp
  refine I.step (g' := s.gens) (d' := s.drawn) (ch := ch) (fun b hb => ⟨(hch b hb).2.2.2.1, (hch b hb).2.1, (hch b hb).2.2.2.2.1, (hch b hb).2.2.2.2.2⟩) (fun b o _ _ hc e _ => k b o hc e) (fun b o _ _ hc e _ => ⟨o.slots, k b o hc e⟩)
    (fun b u _ e n => by rw [Bs (Nat.ne_of_lt (Nat.lt_of_lt_of_le (Heap.lt_size e) hp))]; exact n)
    (fun b o hc e => ⟨o, k b o hc e⟩) (fun b xs e => by rw [Bs (Ey e hn)]; exact e) (fun b u xs e => by rw [Bs (Ey e hn)]; exact e) (fun b ps e => ⟨#[], by rw [Bs (Ey e hn), e]; simp⟩) (fun m hm => ?_) (fun b u e => ?_) I.bare
  · obtain ⟨o, es, ep, ho, r⟩ := hm
    exact ⟨o, es, ep, k _ o (fun z => (hch _ z).2.1 rfl) ho, r⟩
  · by_cases hb : b = a
    · subst hb
      rw [Dz] at e
      cases e
      exact new
    · rw [Bs hb] at e
      refine (I.hok b u e).KZ (fun c v hc q => k c v ?_ q) (fun c q => by rw [Bs (Ey q hn)]; exact q) fun c xs q => by rw [Bs (Ey q hn)]; exact q
      rcases hc with z | z
      · rw [z]; exact nch b u e
      · exact nch c _ z
end
def dH (K : Frag) (a : Addr) : It :=
  ⟨fun i H => ∃ xs x, Bl K H a xs ∧ xs[i]? = some x, fun i H x H' => ∃ p y, H p = none ∧ x = .ref p ∧ H' = upd H p (.tup [.int i, y]) ∧ ∀ xs, Bl K H a xs → xs[i]? = some y, fun i H => ∃ xs, Bl K H a xs ∧ xs.length ≤ i⟩
theorem AGz {P : Program} {w : World} {K : Frag} {elts : List Expr} {k1 : Nat} {pos : Pos} (a e it : Addr) (hei : e ≠ it) :
    Turn P w K (.Tuple elts k1 pos) (dH K a) [e, it] e (fun i h => (∃ old, IsEnum h e it i old) ∧ h.IsListIter it a i) where
  mem := by simp
  obj := fun i h st b hb => by
    obtain ⟨⟨old, he⟩, hit⟩ := st
    rcases List.mem_cons.mp hb with rfl | hb
    · exact ⟨_, he, fun v z => by
        have z' : Data.fields _ = Data.cell v := z
        cases z'⟩
    · have e2 : b = it := by simpa using hb
      subst e2
      obtain ⟨o, e3, c, d⟩ := hit
      exact ⟨o, e3, fun v z => by rw [d] at z; cases z⟩
  keep := fun i h h' st k => by
    obtain ⟨⟨old, he⟩, hit⟩ := st
    exact ⟨⟨old, k e (by simp) _ he⟩, hit.at fun o q => k it (by simp) o q⟩
  item := by
    intro X hP hw hK hc i pins s σ H E I hf st hg
    subst hP hw hK
    obtain ⟨xs, x, hq, hx⟩ := hg
    obtain ⟨its, rv, p, hz⟩ := I.list hq
    obtain ⟨u, hu, ru⟩ := rv.get hx
    obtain ⟨⟨old, he⟩, hit⟩ := st
    refine wpAny_pyNext_enum_item he hit p.isList (x := u) (by simpa using hu) hei fun h1 ho hit1 hT hsz hk => ?_
    refine ⟨_, rfl, wpAny_letOwnedTupleGo_enum ho fun h2 he2 hs2 => ?_⟩
    have hlt : e < s.heap.objs.size := Heap.lt_size he
    have hilt : it < s.heap.objs.size := by obtain ⟨_, q, _⟩ := hit; exact Heap.lt_size q
    have hT2 : h2.get? s.heap.objs.size = some { cls := .type "tuple", data := .seq #[.int i s.toks, u] } := (hs2.2 _ (Nat.ne_of_gt hlt)).trans hT
    have I2 : Inv X pins σ (upd H s.heap.objs.size (.tup [.int i, x])) { s with heap := h2, toks := s.toks + 1 } := I.tL (ch := [e, it]) hf (fun b o hb q => by
      have n1 : b ≠ e := fun z => hb (by simp [z])
      have n2 : b ≠ it := fun z => hb (by simp [z])
      exact (hs2.2 b n1).trans (hk b o n1 n2 q)) (Nat.le_refl _) ⟨by show 2 ≤ sizeLine; decide, [.int i s.toks, u], .cons ⟨_, rfl⟩ (.cons ru .nil), _, hT2, rfl, _, rfl⟩
    refine ⟨.ref s.heap.objs.size, _, I2, rfl, ⟨_, x, I.hok.fresh (Nat.le_refl _), rfl, rfl, fun ys hy => by rw [I.Xq hy hq]; exact hx⟩, ⟨⟨_, by simpa using he2⟩, hit1.at fun o q => (hs2.2 it hei.symm).trans q⟩, fun b hb => ?_⟩
    have hb' : b < s.heap.objs.size := by
      rcases List.mem_cons.mp hb with rfl | hb
      · exact hlt
      · have e2 : b = it := by simpa using hb
        rw [e2]; exact hilt
    rw [Bs (Nat.ne_of_lt hb')]
    exact (hf b hb).1
  done := by
    intro X hP hw hK hc i pins s σ H E I hf st hg
    subst hP hw hK
    obtain ⟨xs, hq, hx⟩ := hg
    obtain ⟨its, rv, p, hz⟩ := I.list hq
    have hl := rv.length
    obtain ⟨⟨old, he⟩, hit⟩ := st
    refine wpAny_pyNext_enum_end (I.ok.hd hc) he hit p.isList (by simp; omega) fun h1 hk => ⟨rfl, I.rT (t' := s.toks) (ch := [e, it]) hf fun b o hb q => hk b o (fun z => hb (by simp [z])) q⟩
  self := fun _ _ _ _ _ st h => by
    obtain ⟨⟨old, he⟩, _⟩ := st
    exact wpAny_pyIter_enum he h
def ZW (K : Frag) (a b : Addr) : It :=
  ⟨fun i H => ∃ xs ys x y, Bl K H a xs ∧ Bl K H b ys ∧ xs[i]? = some x ∧ ys[i]? = some y,
   fun i H v H' => ∃ p x y, H p = none ∧ v = .ref p ∧ H' = upd H p (.tup [x, y]) ∧ (∀ xs, Bl K H a xs → xs[i]? = some x) ∧ ∀ ys, Bl K H b ys → ys[i]? = some y,
   fun i H => ∃ xs ys, Bl K H a xs ∧ Bl K H b ys ∧ min xs.length ys.length ≤ i⟩
theorem AHm {P : Program} {w : World} {K : Frag} {elts : List Expr} {k1 : Nat} {pos : Pos} (a b z TI TO i1 i2 : Addr) (D : ZipApart z TI TO i1 i2 a b) :
    Turn P w K (.Tuple elts k1 pos) (ZW K a b) [z, TI, TO, i1, i2] z (fun i h => IsZip h z TI TO .none ∧ IsPair h TI (.ref i1) (.ref i2) ∧ (∃ x y, IsPair h TO x y) ∧ h.IsListIter i1 a i ∧ h.IsListIter i2 b i) where
  mem := by simp
  obj := fun i h st c hc => by
    obtain ⟨hz, hTI, ⟨x, y, hTO⟩, h1, h2⟩ := st
    simp only [List.mem_cons, List.not_mem_nil, or_false] at hc
    rcases hc with rfl | rfl | rfl | rfl | rfl
    · exact ⟨_, hz, fun v q => by
        have q' : Data.fields _ = Data.cell v := q
        cases q'⟩
    · exact ⟨_, hTI, fun v q => by
        have q' : Data.seq _ _ = Data.cell v := q
        cases q'⟩
    · exact ⟨_, hTO, fun v q => by
        have q' : Data.seq _ _ = Data.cell v := q
        cases q'⟩
    · obtain ⟨o, e3, c, d⟩ := h1
      exact ⟨o, e3, fun v z => by rw [d] at z; cases z⟩
    · obtain ⟨o, e3, c, d⟩ := h2
      exact ⟨o, e3, fun v z => by rw [d] at z; cases z⟩
  keep := fun i h h' st k => by
    obtain ⟨hz, hTI, ⟨x, y, hTO⟩, h1, h2⟩ := st
    exact ⟨k z (by simp) _ hz, k TI (by simp) _ hTI, ⟨x, y, k TO (by simp) _ hTO⟩, h1.at fun o q => k i1 (by simp) o q, h2.at fun o q => k i2 (by simp) o q⟩
  item := by
    intro X hP hw hK hc i pins s σ H E I hf st hg
    subst hP hw hK
    obtain ⟨xs, ys, x, y, hqa, hqb, hx, hy⟩ := hg
    obtain ⟨its, rv, p, hz⟩ := I.list hqa
    obtain ⟨jts, rw', p', hz'⟩ := I.list hqb
    obtain ⟨u, hu, ru⟩ := rv.get hx
    obtain ⟨v, hv, rv2⟩ := rw'.get hy
    obtain ⟨hzz, hTI, ⟨x0, y0, hTO⟩, h1, h2⟩ := st
    refine wpAny_pyNext_zip_item D hzz hTI hTO h1 h2 p.isList p'.isList (x := u) (y := v) (by simpa using hu) (by simpa using hv) fun g1 hz1 ABw hi1 hi2 hP1 hsz hk => ?_
    refine ⟨_, rfl, wpAny_letOwnedTupleGo_zip hz1 fun g2 hz2 hs2 => ?_⟩
    have hlt : z < s.heap.objs.size := Heap.lt_size hzz
    have hT2 : IsPair g2 s.heap.objs.size u v := (hs2.2 _ (Nat.ne_of_gt hlt)).trans hP1
    have I2 : Inv X pins σ (upd H s.heap.objs.size (.tup [x, y])) { s with heap := g2, toks := s.toks } := I.tL (ch := [z, TI, TO, i1, i2]) hf (fun c o hb q => by
      have n1 : c ≠ z := fun e => hb (by simp [e])
      exact (hs2.2 c n1).trans (hk c o n1 (fun e => hb (by simp [e])) (fun e => hb (by simp [e])) (fun e => hb (by simp [e])) q)) (Nat.le_refl _) ⟨by show 2 ≤ sizeLine; decide, [u, v], .cons ru (.cons rv2 .nil), _, hT2, rfl, _, rfl⟩
    refine ⟨.ref s.heap.objs.size, _, I2, rfl, ⟨_, x, y, I.hok.fresh (Nat.le_refl _), rfl, rfl, fun xs' h' => by rw [I.Xq h' hqa]; exact hx, fun ys' h' => by rw [I.Xq h' hqb]; exact hy⟩, ?_, fun c hc' => ?_⟩
    · refine ⟨hz2, (hs2.2 _ D.TIz).trans ?_, ⟨u, v, (hs2.2 _ D.TOz).trans ABw⟩, hi1.at fun o q => (hs2.2 i1 D.i1z).trans q, hi2.at fun o q => (hs2.2 i2 D.i2z).trans q⟩
      exact hk TI _ D.TIz D.TITO D.TIi1 D.TIi2 hTI
    · have hb' : c < s.heap.objs.size := by
        simp only [List.mem_cons, List.not_mem_nil, or_false] at hc'
        rcases hc' with rfl | rfl | rfl | rfl | rfl
        · exact hlt
        · exact Heap.lt_size hTI
        · exact Heap.lt_size hTO
        · obtain ⟨_, q, _⟩ := h1; exact Heap.lt_size q
        · obtain ⟨_, q, _⟩ := h2; exact Heap.lt_size q
      rw [Bs (Nat.ne_of_lt hb')]
      exact (hf c hc').1
  done := by
    intro X hP hw hK hc i pins s σ H E I hf st hg
    subst hP hw hK
    obtain ⟨xs, ys, hqa, hqb, hm⟩ := hg
    obtain ⟨its, rv, p, hz⟩ := I.list hqa
    obtain ⟨jts, rw', p', hz'⟩ := I.list hqb
    have hl := rv.length
    have hl' := rw'.length
    obtain ⟨hzz, hTI, ⟨x0, y0, hTO⟩, h1, h2⟩ := st
    refine wpAny_pyNext_zip_end (I.ok.hd hc) D hzz hTI hTO h1 h2 p.isList p'.isList (by simp; omega) fun g1 hk => ⟨rfl, I.rT (t' := s.toks) (ch := [z, TI, TO, i1, i2]) hf fun c o hb q => hk c o (fun e => hb (by simp [e])) (fun e => hb (by simp [e])) (fun e => hb (by simp [e])) (fun e => hb (by simp [e])) q⟩
  self := fun _ _ _ _ _ st h => wpAny_pyIter_zip st.1 h
section
variable {X : Cx} {elts : List Expr} {k1 : Nat} {tpos : Pos}
def qZ (K : Frag) (ta : TA) : TI := fun σ H R => ta σ H fun vs H1 => ∃ a, vs = [.ref a] ∧ (∃ xs, Bl K H1 a xs) ∧ R (dH K a) H1
def sO (K : Frag) (ta : TA) : TI := fun σ H R => ta σ H fun vs H1 => ∃ a b, vs = [.ref a, .ref b] ∧ (∃ xs, Bl K H1 a xs) ∧ (∃ ys, Bl K H1 b ys) ∧ R (ZW K a b) H1
theorem AIE {a : Expr} {ta : TA} {p pos : Pos} (hg : Gl X "enumerate") (hm : X.mg "enumerate" = none) (ha : PA X [a] ta) (hs : starEach [a] X.env = [(false, eval a X.env)] := by rfl) :
    PI X (.Tuple elts k1 tpos) (.Call (.Name "enumerate" p) [a] [] pos) (qZ X.K ta) := by
  intro pins s σ H R I h
  refine Call_ (Ox I hg hm (by rfl) (PyProof.Rows.callWith_type1 (Bg (ha pos pins s σ H _ I h) fun us s1 ⟨vs, H1, I1, r1, q1⟩ => ?_) hs rfl))
  obtain ⟨l, e, ⟨xs, hq⟩, q⟩ := q1
  subst e
  obtain ⟨u, rfl, rx⟩ := vals1 r1
  cases rx
  obtain ⟨its, rv, pl, hz⟩ := I1.list hq
  refine call_enumerate_list pl.isList fun h' he hit hsz hk => ?_
  have I2 : Inv X pins σ H1 { s1 with heap := h', toks := s1.toks } := I1.kept hk
  refine wpAny_pyIter_enum (s := { s1 with heap := h' }) he ?_
  refine ⟨s1.heap.objs.size + 1, [s1.heap.objs.size + 1, s1.heap.objs.size], _, _, H1, rfl, I2, AGz l (s1.heap.objs.size + 1) s1.heap.objs.size (Nat.succ_ne_self _), ⟨⟨_, by simpa using he⟩, hit⟩, fun b hb => ?_, q⟩
  simp only [List.mem_cons, List.not_mem_nil, or_false] at hb
  rcases hb with rfl | rfl
  · exact I1.Pz (Nat.le_succ _) (I1.hok.fresh (Nat.le_succ _))
  · exact I1.Pz (Nat.le_refl _) (I1.hok.fresh (Nat.le_refl _))
theorem AJu {a b : Expr} {ta : TA} {p pos : Pos} (hg : Gl X "zip") (hm : X.mg "zip" = none) (ha : PA X [a, b] ta) (hs : starEach [a, b] X.env = [(false, eval a X.env), (false, eval b X.env)] := by rfl) (hs2 : starEach [b] X.env = [(false, eval b X.env)] := by rfl) :
    PI X (.Tuple elts k1 tpos) (.Call (.Name "zip" p) [a, b] [] pos) (sO X.K ta) := by
  intro pins s σ H R I h
  refine Call_ (Ox I hg hm (by rfl) (PyProof.Rows.callWith_type1 (Bg (ha pos pins s σ H _ I h) fun us s1 ⟨vs, H1, I1, r1, q1⟩ => ?_) (by rw [hs, hs2]) (by rw [hs2]; rfl)))
  obtain ⟨l, l2, e, ⟨xs, hq⟩, ⟨ys, hq2⟩, q⟩ := q1
  subst e
  obtain ⟨u, u2, rfl, rx, rx2⟩ := vals2 r1
  cases rx
  cases rx2
  obtain ⟨its, rv, pl, hz⟩ := I1.list hq
  obtain ⟨jts, rv2, pl2, hz2⟩ := I1.list hq2
  have lt1 : l < s1.heap.objs.size := by obtain ⟨_, e, _⟩ := pl.isList; exact Heap.lt_size e
  have lt2 : l2 < s1.heap.objs.size := by obtain ⟨_, e, _⟩ := pl2.isList; exact Heap.lt_size e
  refine call_zip_2 pl.isList pl2.isList fun h' hzz hTI hTO hi1 hi2 hsz hk => ?_
  have I2 : Inv X pins σ H1 { s1 with heap := h', toks := s1.toks } := I1.kept hk
  refine wpAny_pyIter_zip (s := { s1 with heap := h' }) hzz ?_
  refine ⟨s1.heap.objs.size + 4, [s1.heap.objs.size + 4, s1.heap.objs.size + 2, s1.heap.objs.size + 3, s1.heap.objs.size, s1.heap.objs.size + 1], _, _, H1, rfl, I2, AHm l l2 _ _ _ _ _ (zipApart_new lt1 lt2), ⟨hzz, hTI, ⟨_, _, hTO⟩, hi1, hi2⟩, fun b hb => ?_, q⟩
  simp only [List.mem_cons, List.not_mem_nil, or_false] at hb
  have up : ∀ k, Hm X pins H1 (s1.heap.objs.size + k) := fun k => I1.Pz (Nat.le_add_right _ k) (I1.hok.fresh (Nat.le_add_right _ k))
  rcases hb with rfl | rfl | rfl | rfl | rfl
  · exact up 4
  · exact up 2
  · exact up 3
  · exact up 0
  · exact up 1
end
end L2
namespace L2
open PySem PySem.Spec PyProof.Rows
abbrev Thing := Option (Int × Int)
def encD : Thing → PyData
  | none => .tuple []
  | some (k, w) => .tuple [.int k, .int w]
theorem WW (t : Thing) : (encD t).canLay0 = true ∧ (encD t).depth ≤ 1 := by
  cases t with
  | none => simp [encD, PyData.canLay0, PyData.canLayAll0, PyData.depth, PyData.depthAll]
  | some kw => simp [encD, PyData.canLay0, PyData.canLayAll0, PyData.depth, PyData.depthAll]
theorem XJ (t : Thing) : SeqAt.shaped (encD t) = true := by
  have := WW t
  unfold SeqAt.shaped
  rw [this.1, Bool.true_and]
  exact decide_eq_true (Nat.le_trans this.2 (by decide))
theorem pN : ∀ ts : List Thing, PyData.canLayAll0 (ts.map encD) = true ∧ PyData.depthAll (ts.map encD) ≤ 1
  | [] => by simp [PyData.canLayAll0, PyData.depthAll]
  | t :: r => by
    have h1 := WW t
    have h2 := pN r
    simp only [List.map_cons, PyData.canLayAll0, PyData.depthAll, h1.1, h2.1, Bool.and_self, true_and]
    have a1 := h1.2
    have a2 := h2.2
    omega
theorem Wh (ts : List Thing) : SeqAt.shaped (.list (ts.map encD)) = true := by
  have := pN ts
  unfold SeqAt.shaped
  simp only [PyData.canLay0, PyData.depth, this.1, Bool.true_and]
  exact decide_eq_true (by omega)
theorem YB (t u : Thing) : PyData.eqv (encD t) (encD u) = decide (t = u) := by
  cases t with
  | none => cases u with
    | none => simp [encD, PyData.eqv, PyData.eqvAll]
    | some kw => simp [encD, PyData.eqv, PyData.eqvAll]
  | some kw => cases u with
    | none => simp [encD, PyData.eqv, PyData.eqvAll]
    | some kw' =>
      obtain ⟨a, b⟩ := kw
      obtain ⟨c, d⟩ := kw'
      show PyData.eqv (.tuple [.int a, .int b]) (.tuple [.int c, .int d]) = _
      rw [AKN]
      by_cases h1 : a = c <;> by_cases h2 : b = d <;> simp [h1, h2]
theorem uI : ∀ ts us : List Thing, PyData.eqvAll (ts.map encD) (us.map encD) = decide (ts = us)
  | [], [] => by simp [PyData.eqvAll]
  | [], _ :: _ => by simp [PyData.eqvAll]
  | _ :: _, [] => by simp [PyData.eqvAll]
  | t :: r, u :: q => by
    simp only [List.map_cons, PyData.eqvAll, YB, uI r q]
    by_cases h1 : t = u <;> by_cases h2 : r = q <;> simp [h1, h2]
theorem pI (ts us : List Thing) : PyData.eqv (.list (ts.map encD)) (.list (us.map encD)) = decide (ts = us) := by
  simp only [PyData.eqv]
  exact uI ts us
end L2
namespace L2
open PySem PySem.Spec PyProof.Rows
abbrev D := PyData
def Ah (O : List Addr) (H : Hp) : Hp := fun b => if b ∈ O then none else H b
theorem QF {O : List Addr} {H : Hp} {b : Addr} (h : b ∈ O) : Ah O H b = none := if_pos h
theorem Cm {O : List Addr} {H : Hp} {b : Addr} (h : b ∉ O) : Ah O H b = H b := if_neg h
theorem Iw {O : List Addr} {H : Hp} {b : Addr} {o : HO} (h : Ah O H b = some o) : b ∉ O ∧ H b = some o := by
  by_cases q : b ∈ O
  · rw [QF q] at h; cases h
  · rw [Cm q] at h; exact ⟨q, h⟩
theorem Dd {O : List Addr} {H : Hp} : Ao (Ah O H) H := fun b o h => (Iw h).2
theorem DY {O O' : List Addr} {H : Hp} (h : ∀ b, b ∈ O' → b ∈ O) : Ao (Ah O H) (Ah O' H) := fun b o e => by
  obtain ⟨n, e⟩ := Iw e
  rw [Cm fun z => n (h b z)]
  exact e
theorem Eg {O : List Addr} {H H' : Hp} (s : Ao H H') : Ao (Ah O H) (Ah O H') := fun b o e => by
  obtain ⟨n, e⟩ := Iw e
  rw [Cm n]
  exact s b o e
theorem M8 {O : List Addr} {H : Hp} {a : Addr} {o : HO} (h : a ∈ O) : Ah O (upd H a o) = Ah O H := by
  funext b
  by_cases q : b ∈ O
  · rw [QF q, QF q]
  · rw [Cm q, Cm q, Bs fun z => q (by rw [z]; exact h)]
theorem AGl {H : Hp} : Ah [] H = H := by
  funext b
  exact Cm (by simp)
theorem Ud {O : List Addr} {H : Hp} {a : Addr} {o : HO} (h : H a = none) : Ao (Ah O H) (Ah (a :: O) (upd H a o)) := fun b u e => by
  obtain ⟨n, e⟩ := Iw e
  have nb : b ≠ a := Ey e h
  rw [Cm (by simp [nb, n]), Bs nb]
  exact e
def Cd (O : List Addr) (H : Hp) : Prop := ∀ a ∈ O, ∃ o, H a = some o
theorem Cd.mono {O : List Addr} {H H' : Hp} (k : Cd O H) (s : Ao H H') : Cd O H' := fun a h => by
  obtain ⟨o, e⟩ := k a h
  exact ⟨o, s _ _ e⟩
theorem Cd.fresh {O : List Addr} {H : Hp} {a : Addr} (k : Cd O H) (h : H a = none) : a ∉ O := fun z => by
  obtain ⟨o, e⟩ := k a z
  rw [e] at h
  cases h
theorem Cd.nil {H : Hp} : Cd [] H := fun a h => by cases h
abbrev Bf := List (Option D)
abbrev PF := Bf → Option D
abbrev PB := Bf → Option Bool
abbrev BW := Bf → Option (List D)
def Dm (K : Frag) (H : Hp) (σ : St) (ρ : Bf) : Prop := ∀ (i : Nat) (d : D), ρ[i]? = some (some d) → ∃ v, σ[i]? = some (some v) ∧ Rep K H v d
theorem Dm.mono {K : Frag} {H H' : Hp} {σ : St} {ρ : Bf} (e : Dm K H σ ρ) (s : Ao H H') : Dm K H' σ ρ := fun i d h => by
  obtain ⟨v, e1, r⟩ := e i d h
  exact ⟨v, e1, r.mono s⟩
def G8 (K : Frag) (te : TE) (f : PF) : Prop := ∀ (O : List Addr) (σ : St) (H : Hp) (ρ : Bf) (d : D) (Q : VK), Cd O H → Dm K (Ah O H) σ ρ → f ρ = some d →
  (∀ v H', Ao H H' → Rep K (Ah O H') v d → Q v H') → te σ H Q
def Oo (K : Frag) (te : TT) (f : PB) : Prop := ∀ (O : List Addr) (σ : St) (H : Hp) (ρ : Bf) (b : Bool) (Q : Bool → Hp → Prop), Cd O H → Dm K (Ah O H) σ ρ → f ρ = some b →
  (∀ H', Ao H H' → Q b H') → te σ H Q
def T4 (K : Frag) (te : TA) (f : BW) : Prop := ∀ (O : List Addr) (σ : St) (H : Hp) (ρ : Bf) (ds : List D) (Q : List V → Hp → Prop), Cd O H → Dm K (Ah O H) σ ρ → f ρ = some ds →
  (∀ vs H', Ao H H' → BP K (Ah O H') vs ds → Q vs H') → te σ H Q
def Le (K : Frag) (te : TE) (f : BW) : Prop := ∀ (O : List Addr) (σ : St) (H : Hp) (ρ : Bf) (ds : List D) (Q : VK), Cd O H → Dm K (Ah O H) σ ρ → f ρ = some ds →
  (∀ a xs H', Ao H H' → H a = none → H' a = some (.lst xs) → BP K (Ah (a :: O) H') xs ds → Q (.ref a) H') → te σ H Q
def NQ (K : Frag) (r : R2) (g : D → D → Option D) : Prop := ∀ (O : List Addr) (H : Hp) (x y : V) (a b d : D) (Q : VK), Cd O H → Rep K (Ah O H) x a → Rep K (Ah O H) y b → g a b = some d →
  (∀ v H', Ao H H' → Rep K (Ah O H') v d → Q v H') → r x y H Q
def PuC (K : Frag) (r : List V → Hp → VK → Prop) (g : List D → Option D) : Prop := ∀ (O : List Addr) (H : Hp) (vs : List V) (ds : List D) (d : D) (Q : VK), Cd O H → BP K (Ah O H) vs ds → g ds = some d →
  (∀ v H', Ao H H' → Rep K (Ah O H') v d → Q v H') → r vs H Q
def AAZ (K : Frag) (r : List V → Hp → VK → Prop) (g : List D → Option (List D)) : Prop := ∀ (O : List Addr) (H : Hp) (vs : List V) (ds es : List D) (Q : VK), Cd O H → BP K (Ah O H) vs ds → g ds = some es →
  (∀ a xs H', Ao H H' → H a = none → H' a = some (.lst xs) → BP K (Ah (a :: O) H') xs es → Q (.ref a) H') → r vs H Q
structure JE (X : Cx) (K : Frag) (e : Expr) (te : TE) (f : PF) : Prop where
  pe : PE X e te
  pu : G8 K te f
structure JT (X : Cx) (K : Frag) (e : Expr) (te : TT) (f : PB) : Prop where
  pe : PT X e te
  pu : Oo K te f
structure JW (X : Cx) (K : Frag) (e : Expr) (te : TT) (f : PB) : Prop where
  pe : PW X e te
  pu : Oo K te f
structure JA (X : Cx) (K : Frag) (es : List Expr) (te : TA) (f : BW) : Prop where
  pe : PA X es te
  pu : T4 K te f
structure JL (X : Cx) (K : Frag) (e : Expr) (te : TE) (f : BW) : Prop where
  pe : PE X e te
  pu : Le K te f
structure FZ (X : Cx) (K : Frag) (f : Value → Value → Sem Value) (r : R2) (g : D → D → Option D) : Prop where
  pe : EY X f r
  pu : NQ K r g
structure Mj (X : Cx) (K : Frag) (f : Value) (r : List V → Hp → VK → Prop) (g : List D → Option D) : Prop where
  pe : Hj X f r
  pu : PuC K r g
structure lH (X : Cx) (K : Frag) (f : Value) (r : List V → Hp → VK → Prop) (g : List D → Option (List D)) : Prop where
  pe : Hj X f r
  pu : AAZ K r g
def Aa (i : Nat) : PF := fun ρ => (ρ[i]?).join
def Ad (d : D) : PF := fun _ => some d
def Ac (g : D → D → Option D) (a b : PF) : PF := fun ρ => (a ρ).bind fun x => (b ρ).bind fun y => g x y
def Ma (g : D → Option D) (a : PF) : PF := fun ρ => (a ρ).bind g
def Ow : D → Option Bool
  | .bool b => some b
  | _ => none
def Ax (a : PF) : PB := fun ρ => (a ρ).bind Ow
def Ff (a : PB) : PB := fun ρ => (a ρ).map (!·)
def GX (a b : PB) : PB := fun ρ => (a ρ).bind fun x => if x = true then b ρ else some false
def Ft (a b : PB) : PB := fun ρ => (a ρ).bind fun x => if x = true then some true else b ρ
def Cu : PB := fun _ => some true
def Gp (a b : PF) : PF := fun ρ => (a ρ).bind fun x => (Ow x).bind fun k => if k = true then b ρ else some (.bool false)
def Tz (a b : PF) : PF := fun ρ => (a ρ).bind fun x => (Ow x).bind fun k => if k = true then some (.bool true) else b ρ
def Qw (a : PF) : PF := fun ρ => (a ρ).bind fun x => (Ow x).bind fun k => some (.bool (!k))
def Xz (c : PB) (a b : PF) : PF := fun ρ => (c ρ).bind fun x => if x = true then a ρ else b ρ
def Je (g g' : D → D → Option D) (a b c : PF) : PF := fun ρ => (a ρ).bind fun x => (b ρ).bind fun y => (g x y).bind fun z => (Ow z).bind fun k => if k = true then (c ρ).bind fun u => g' y u else some (.bool false)
def Ae : BW := fun _ => some []
def Ab (a : PF) (r : BW) : BW := fun ρ => (a ρ).bind fun x => (r ρ).bind fun xs => some (x :: xs)
def fits (n : Nat) : Bool := decide (n < sizeLine)
def Be (r : BW) : PF := fun ρ => (r ρ).bind fun xs => if fits xs.length = true then some (.tuple xs) else none
def Bm (r : BW) : BW := fun ρ => (r ρ).bind fun xs => if fits xs.length = true then some xs else none
def Aw (r : BW) : PF := fun ρ => (r ρ).map PyData.list
def Ai (f : List D → Option D) (r : BW) : PF := fun ρ => (r ρ).bind f
def BX (f : List D → Option (List D)) (r : BW) : BW := fun ρ => (r ρ).bind f
def dI (g : Int → Int → D) : D → D → Option D
  | .int a, .int b => some (g a b)
  | _, _ => none
def Uq (C : Int → Int → Bool) (g : Int → Int → D) : D → D → Option D
  | .int a, .int b => if C a b = true then some (g a b) else none
  | _, _ => none
def Ck := dI fun i j => .int (i + j)
def Ed := dI fun i j => .int (i - j)
def small (i : Int) : Bool := decide (-(2 ^ 64) < i ∧ i < 2 ^ 64)
def DR := Uq (fun i j => small i || small j) fun i j => .int (i * j)
def Wide (j : Int) : Prop := 0 < j ∧ j.natAbs.log2 < 9000
instance (j : Int) : Decidable (Wide j) := instDecidableAnd
def CJ := Uq (fun _ j => decide ((0 < j ∧ j < 1073741824) ∨ Wide j)) fun i j => .int (i / j)
theorem AKL {j : Int} (h : (0 < j ∧ j < 1073741824) ∨ Wide j) : Wide j := by
  rcases h with ⟨h0, h1⟩ | h
  · refine ⟨h0, ?_⟩
    have h30 : j.natAbs.log2 < 30 := (Nat.log2_lt (by omega)).mpr (by omega)
    omega
  · exact h
def BV := Uq (fun _ j => decide (0 < j)) fun i j => .int (i % j)
def G9 := Uq (fun i j => decide (0 ≤ j ∧ j ≤ 1000000 ∧ i.natAbs < 2 ^ 64)) fun i j => .int (i ^ j.toNat)
def Ha := dI fun i j => .bool (decide (i < j))
def Ih := dI fun i j => .bool (decide (i ≤ j))
def G3 := dI fun i j => .bool (decide (j < i))
def Mz := dI fun i j => .bool (decide (j ≤ i))
def Bj (a b : D) : Option D := if SeqAt.shaped a = true ∧ SeqAt.shaped b = true then some (.bool (PyData.eqv a b)) else none
def Bu (a b : D) : Option D := if SeqAt.shaped a = true ∧ SeqAt.shaped b = true then some (.bool (!PyData.eqv a b)) else none
def Jb : D → Bool
  | .none => true
  | _ => false
def J7 (a b : D) : Option D := if Jb b = true then some (.bool (Jb a)) else none
def Pu (a b : D) : Option D := if Jb b = true then some (.bool (!Jb a)) else none
def Av : D → D → Option D
  | .list ds, .int i => DW ds i
  | .tuple ds, .int i => DW ds i
  | .str z, .int i => if z.length ≤ sizeLine then (DW z.cps.toList i).map fun c => .str ⟨#[c]⟩ else none
  | _, _ => none
def M9 : D → Option D
  | .int i => some (.int (-i))
  | _ => none
section
variable {X : Cx} {K : Frag}
theorem Rep.Ah {O : List Addr} {H H' : Hp} {v : V} {d : D} (r : Rep K (Ah O H) v d) (s : Ao H H') : Rep K (L2.Ah O H') v d := r.mono (Eg s)
theorem BP.Ah {O : List Addr} {H H' : Hp} {v : List V} {d : List D} (r : BP K (L2.Ah O H) v d) (s : Ao H H') : BP K (L2.Ah O H') v d := r.mono (Eg s)
theorem Dm.Ah {O : List Addr} {H H' : Hp} {σ : St} {ρ : Bf} (r : Dm K (L2.Ah O H) σ ρ) (s : Ao H H') : Dm K (L2.Ah O H') σ ρ := r.mono (Eg s)
theorem JL.je {e : Expr} {te : TE} {f : BW} (j : JL X K e te f) : JE X K e te (Aw f) := ⟨j.pe, by
  intro O σ H ρ d Q ok er hf q
  have hf' : (f ρ).map PyData.list = some d := hf
  cases e1 : f ρ with
  | none => rw [e1] at hf'; cases hf'
  | some ds =>
    rw [e1] at hf'
    cases hf'
    refine j.pu O σ H ρ ds Q ok er e1 fun a xs H' s hn ha r => q _ H' s ?_
    have na : a ∉ O := ok.fresh hn
    exact .lst (Bl.of (by rw [Cm na]; exact ha)) (r.mono (DY fun b hb => BZ hb))⟩
theorem Af (i : Nat) {x : Str} {pos : Pos} (hN : X.N[i]? = some x := by rfl) (hv : Ig X.env.scope x := by first | exact Or.inl rfl | exact Or.inr (Or.inl rfl) | exact Or.inr (Or.inr rfl)) (hd : (x == ("__debug__" : Str)) = false := by decide)
    (hcd : (x == ("__classdict__" : Str)) = false := by decide) : JE X K (.Name x pos) (Eh i) (Aa i) := ⟨M4 hN hv hd hcd, by
  intro O σ H ρ d Q ok er hf q
  have hf' : (ρ[i]?).join = some d := hf
  have h2 : ρ[i]? = some (some d) := by
    cases e1 : ρ[i]? with
    | none => rw [e1] at hf'; cases hf'
    | some o => rw [e1] at hf'; rw [show o = some d from hf']
  obtain ⟨v, e2, r⟩ := er i d h2
  exact ⟨v, e2, q v H (Ao.refl H) r⟩⟩
theorem Xw {v : V} {d : D} (h : ∀ H, Rep K H v d) : G8 K (tC v) (Ad d) := by
  intro O σ H ρ d' Q ok er hf q
  cases hf
  exact q v H (Ao.refl H) (h _)
theorem Ak {i j pos} : JE X K (.Constant (.int i) j pos) (tC (.int i)) (Ad (.int i)) := ⟨ACL, Xw fun _ => .int i⟩
theorem IV {b j pos} : JE X K (.Constant (.bool b) j pos) (tC (.bl b)) (Ad (.bool b)) := ⟨AJy, Xw fun _ => .bl b⟩
theorem Qx {j pos} : JE X K (.Constant .none j pos) (tC .non) (Ad .none) := ⟨AAT, Xw fun _ => .non⟩
theorem U7 {x : Str} {i : Int} {pos : Pos} (hg : Gl X x) (hm : ∃ t, X.mg x = some (.int i t)) (hd : (x == ("__debug__" : Str)) = false := by decide) : JE X K (.Name x pos) (tC (.int i)) (Ad (.int i)) := by
  obtain ⟨t, hm⟩ := hm
  exact ⟨N7 hg hm ⟨t, rfl⟩ hd, Xw fun _ => .int i⟩
section
variable {a b c : Expr} {ta tb tc : TE} {fa fb fc : PF} {pos : Pos} {r r' : R2} {g g' : D → D → Option D}
theorem Ar {α β : Type} {o : Option α} {f : α → Option β} {b : β} (h : o.bind f = some b) : ∃ x, o = some x ∧ f x = some b := by
  cases o with
  | none => cases h
  | some x => exact ⟨x, rfl, h⟩
theorem V6 (hr : NQ K r g) (ha : G8 K ta fa) (hb : G8 K tb fb) : G8 K (JZ r ta tb) (Ac g fa fb) := by
  intro O σ H ρ d Q ok er hf q
  obtain ⟨x, e1, hf⟩ := Ar hf
  obtain ⟨y, e2, hf⟩ := Ar hf
  refine ha O σ H ρ x _ ok er e1 fun v H1 s1 r1 => ?_
  refine hb O σ H1 ρ y _ (ok.mono s1) (er.Ah s1) e2 fun u H2 s2 r2 => ?_
  exact hr O H2 v u x y d Q ((ok.mono s1).mono s2) (r1.Ah s2) r2 hf fun w H3 s3 r3 => q w H3 ((s1.trans s2).trans s3) r3
theorem BJ {op : Operator} (ho : FZ X K (binaryOp op) r g) (ha : JE X K a ta fa) (hb : JE X K b tb fb) : JE X K (.BinOp a op b pos) (JZ r ta tb) (Ac g fa fb) :=
  ⟨yN ho.pe ha.pe hb.pe, V6 ho.pu ha.pu hb.pu⟩
theorem Hz {op : CmpOp} (ho : FZ X K (compareOp op) r g) (ha : JE X K a ta fa) (hb : JE X K b tb fb) (hm : behindInMarks op b = false) : JE X K (.Compare a [op] [b] pos) (JZ r ta tb) (Ac g fa fb) :=
  ⟨ADe ho.pe ha.pe hb.pe hm, V6 ho.pu ha.pu hb.pu⟩
theorem S7 {H : Hp} {v : V} {d : D} {b : Bool} (r : Rep K H v d) (h : Ow d = some b) : v = .bl b := by
  cases r with
  | bl k => cases h; rfl
  | _ => cases h
theorem dD {t : TE} {f : PF} (h : G8 K t f) : Oo K (T8 t) (Ax f) := by
  intro O σ H ρ k Q ok er hf q
  obtain ⟨x, e1, hf⟩ := Ar hf
  exact h O σ H ρ x _ ok er e1 fun v H1 s1 r1 => ⟨k, S7 r1 hf, q H1 s1⟩
theorem DN {op : CmpOp} (ho : FZ X K (compareOp op) r g) (ha : JE X K a ta fa) (hb : JE X K b tb fb) (hm : behindInMarks op b = false) : JT X K (.Compare a [op] [b] pos) (T8 (JZ r ta tb)) (Ax (Ac g fa fb)) :=
  ⟨AJb ho.pe ha.pe hb.pe hm, dD (V6 ho.pu ha.pu hb.pu)⟩
theorem yQ (hr : NQ K r g) (hr' : NQ K r' g') (ha : G8 K ta fa) (hb : G8 K tb fb) (hc : G8 K tc fc) : G8 K (Uw r r' ta tb tc) (Je g g' fa fb fc) := by
  intro O σ H ρ d Q ok er hf q
  obtain ⟨x, e1, hf⟩ := Ar hf
  obtain ⟨y, e2, hf⟩ := Ar hf
  obtain ⟨z, e3, hf⟩ := Ar hf
  obtain ⟨k, e4, hf⟩ := Ar hf
  refine ha O σ H ρ x _ ok er e1 fun v H1 s1 r1 => ?_
  refine hb O σ H1 ρ y _ (ok.mono s1) (er.Ah s1) e2 fun u H2 s2 r2 => ?_
  have ok2 := (ok.mono s1).mono s2
  refine hr O H2 v u x y z _ ok2 (r1.Ah s2) r2 e3 fun w H3 s3 r3 => ⟨k, S7 r3 e4, ?_⟩
  have s13 := (s1.trans s2).trans s3
  cases k with
  | true =>
    rw [if_pos rfl] at hf ⊢
    obtain ⟨u', e5, hf⟩ := Ar hf
    refine hc O σ H3 ρ u' _ (ok2.mono s3) (er.Ah s13) e5 fun w' H4 s4 r4 => ?_
    exact hr' O H4 u w' y u' d Q ((ok2.mono s3).mono s4) (r2.Ah (s3.trans s4)) r4 hf fun w2 H5 s5 r5 => q w2 H5 ((s13.trans s4).trans s5) r5
  | false =>
    rw [if_neg Bool.false_ne_true] at hf ⊢
    cases hf
    exact q _ H3 s13 (.bl false)
theorem oV {op op' : CmpOp} (ho : FZ X K (compareOp op) r g) (ho' : FZ X K (compareOp op') r' g') (ha : JE X K a ta fa) (hb : JE X K b tb fb) (hc : JE X K c tc fc) (hm : lastMarks [op, op'] [b, c] = false := by with_unfolding_all rfl) : JE X K (.Compare a [op, op'] [b, c] pos) (Uw r r' ta tb tc) (Je g g' fa fb fc) := ⟨AIC ho.pe ho'.pe ha.pe hb.pe hc.pe hm, yQ ho.pu ho'.pu ha.pu hb.pu hc.pu⟩
theorem cH {op op' : CmpOp} (ho : FZ X K (compareOp op) r g) (ho' : FZ X K (compareOp op') r' g') (ha : JE X K a ta fa) (hb : JE X K b tb fb) (hc : JE X K c tc fc) (hm : lastMarks [op, op'] [b, c] = false := by with_unfolding_all rfl) : JT X K (.Compare a [op, op'] [b, c] pos) (T8 (Uw r r' ta tb tc)) (Ax (Je g g' fa fb fc)) := ⟨AAs ho.pe ho'.pe ha.pe hb.pe hc.pe hm, dD (yQ ho.pu ho'.pu ha.pu hb.pu hc.pu)⟩
end
theorem Rf {g : Int → Int → V} {g' : Int → Int → D} (h : ∀ i j H, Rep K H (g i j) (g' i j)) : NQ K (Hb g) (dI g') := by
  intro O H x y a b d Q ok ra rb hg q
  cases ra with
  | int i =>
    cases rb with
    | int j =>
      cases hg
      exact ⟨i, j, rfl, rfl, q _ H (Ao.refl H) (h i j _)⟩
    | _ => cases hg
  | _ => cases rb <;> cases hg
theorem Xu {C : Int → Int → Prop} {C' : Int → Int → Bool} {g : Int → Int → V} {g' : Int → Int → D} (hC : ∀ i j, C' i j = true → C i j) (h : ∀ i j H, Rep K H (g i j) (g' i j)) : NQ K (rI C g) (Uq C' g') := by
  intro O H x y a b d Q ok ra rb hg q
  cases ra with
  | int i =>
    cases rb with
    | int j =>
      have hg' : (if C' i j = true then some (g' i j) else none) = some d := hg
      by_cases hc : C' i j = true
      · rw [if_pos hc] at hg'
        cases hg'
        exact ⟨i, j, rfl, rfl, hC i j hc, q _ H (Ao.refl H) (h i j _)⟩
      · rw [if_neg hc] at hg'
        cases hg'
    | _ => cases hg
  | _ => cases rb <;> cases hg
theorem Gf : FZ X K (binaryOp .Add) (Hb fun i j => .int (i + j)) Ck := ⟨AG9, Rf fun i j H => .int _⟩
theorem Jd : FZ X K (binaryOp .Sub) (Hb fun i j => .int (i - j)) Ed := ⟨AHT, Rf fun i j H => .int _⟩
theorem Ew : FZ X K (binaryOp .Mult) (rI Vv fun i j => .int (i * j)) DR := ⟨AJd, Xu (fun i j h => by
  rw [Bool.or_eq_true] at h
  exact h.imp (fun z => of_decide_eq_true z) (fun z => of_decide_eq_true z)) fun i j H => .int _⟩
theorem AHj : EY X (binaryOp .FloorDiv) (rI (fun _ j => Wide j) fun i j => .int (i / j)) := Yj fun i j _ _ _ _ _ hc q => by
  have h1 : (0 : Int) < j := hc.1
  exact floordiv_int (by omega) (by rw [Int.fdiv_eq_ediv_of_nonneg i (by omega)]; exact q) (.inl (PyProof.noPylong_of_log2 hc.2))
theorem GD : FZ X K (binaryOp .FloorDiv) (rI (fun _ j => Wide j) fun i j => .int (i / j)) CJ := ⟨AHj, Xu (fun i j h => AKL (of_decide_eq_true h)) fun i j H => .int _⟩
theorem Cj : FZ X K (binaryOp .Mod) (rI (fun _ j => 0 < j) fun i j => .int (i % j)) BV := ⟨AKK, Xu (fun i j h => of_decide_eq_true h) fun i j H => .int _⟩
theorem PJ : FZ X K (binaryOp .Pow) (rI lJ fun i j => .int (i ^ j.toNat)) G9 := ⟨AGA, Xu (fun i j h => (of_decide_eq_true h : 0 ≤ j ∧ j ≤ 1000000 ∧ i.natAbs < 2 ^ 64)) fun i j H => .int _⟩
theorem Th : FZ X K (compareOp .Lt) (Hb fun i j => .bl (decide (i < j))) Ha := ⟨AHC, Rf fun i j H => .bl _⟩
theorem Kq : FZ X K (compareOp .LtE) (Hb fun i j => .bl (decide (i ≤ j))) Ih := ⟨AJw, Rf fun i j H => .bl _⟩
theorem Vc : FZ X K (compareOp .Gt) (Hb fun i j => .bl (decide (j < i))) G3 := ⟨AJs, Rf fun i j H => .bl _⟩
theorem eZ : FZ X K (compareOp .GtE) (Hb fun i j => .bl (decide (j ≤ i))) Mz := ⟨AIe, Rf fun i j H => .bl _⟩
def ACI (K : Frag) : R2 := fun x y H Q => ∃ d e, Rep K H x d ∧ Rep K H y e ∧ SeqAt.shaped d = true ∧ SeqAt.shaped e = true ∧ Q (.bl (PyData.eqv d e)) H
def AEQ (K : Frag) : R2 := fun x y H Q => ∃ d e, Rep K H x d ∧ Rep K H y e ∧ SeqAt.shaped d = true ∧ SeqAt.shaped e = true ∧ Q (.bl (!PyData.eqv d e)) H
theorem HS (hK : X.K = K) (hu : X.A.units + 64 < cLine) : FZ X K (compareOp .Eq) (ACI K) Bj := ⟨by subst hK; exact ACP hu, by
  intro O H x y a b d Q ok ra rb hg q
  unfold Bj at hg
  by_cases hc : SeqAt.shaped a = true ∧ SeqAt.shaped b = true
  · rw [if_pos hc] at hg
    cases hg
    exact ⟨a, b, ra.mono Dd, rb.mono Dd, hc.1, hc.2, q _ H (Ao.refl H) (.bl _)⟩
  · rw [if_neg hc] at hg
    cases hg⟩
theorem IK (hK : X.K = K) (hu : X.A.units + 64 < cLine) : FZ X K (compareOp .NotEq) (AEQ K) Bu := ⟨by subst hK; exact AIJ hu, by
  intro O H x y a b d Q ok ra rb hg q
  unfold Bu at hg
  by_cases hc : SeqAt.shaped a = true ∧ SeqAt.shaped b = true
  · rw [if_pos hc] at hg
    cases hg
    exact ⟨a, b, ra.mono Dd, rb.mono Dd, hc.1, hc.2, q _ H (Ao.refl H) (.bl _)⟩
  · rw [if_neg hc] at hg
    cases hg⟩
theorem V7 {H : Hp} {v : V} {d : D} (r : Rep K H v d) : decide (v = .non) = Jb d := by
  cases r <;> simp [Jb]
theorem dX : FZ X K (compareOp .Is) (fun x y H Q => y = .non ∧ Q (.bl (decide (x = .non))) H) J7 := ⟨AJL, by
  intro O H x y a b d Q ok ra rb hg q
  unfold J7 at hg
  by_cases hc : Jb b = true
  · rw [if_pos hc] at hg
    cases hg
    have e : y = .non := of_decide_eq_true (by rw [V7 rb]; exact hc)
    refine ⟨e, q _ H (Ao.refl H) ?_⟩
    rw [V7 ra]
    exact .bl _
  · rw [if_neg hc] at hg
    cases hg⟩
theorem ADP : FZ X K (compareOp .IsNot) (fun x y H Q => y = .non ∧ Q (.bl (!decide (x = .non))) H) Pu := ⟨AGg, by
  intro O H x y a b d Q ok ra rb hg q
  unfold Pu at hg
  by_cases hc : Jb b = true
  · rw [if_pos hc] at hg
    cases hg
    have e : y = .non := of_decide_eq_true (by rw [V7 rb]; exact hc)
    refine ⟨e, q _ H (Ao.refl H) ?_⟩
    rw [V7 ra]
    exact .bl _
  · rw [if_neg hc] at hg
    cases hg⟩
theorem BP.length {H : Hp} : ∀ {xs : List V} {ds : List D}, BP K H xs ds → xs.length = ds.length
  | _, _, .nil => rfl
  | _, _, .cons _ r => by simp [BP.length r]
theorem BP.get {H : Hp} : ∀ {xs : List V} {ds : List D} {i : Nat} {d : D}, BP K H xs ds → ds[i]? = some d → ∃ x, xs[i]? = some x ∧ Rep K H x d
  | _, _, _, _, .nil, e => by simp at e
  | _, _, 0, _, .cons r _, e => by simp at e; subst e; exact ⟨_, rfl, r⟩
  | _, _, i + 1, d, .cons _ t, e => by
    obtain ⟨u, h1, h2⟩ := BP.get (i := i) (d := d) t (by simpa using e)
    exact ⟨u, by simpa using h1, h2⟩
theorem BP.Qu {H : Hp} : ∀ {xs : List V} {ds : List D} {i : Nat} {x : V}, BP K H xs ds → xs[i]? = some x → ∃ d, ds[i]? = some d ∧ Rep K H x d
  | _, _, _, _, .nil, e => by simp at e
  | _, _, 0, _, .cons r _, e => by simp at e; subst e; exact ⟨_, rfl, r⟩
  | _, _, i + 1, d, .cons _ t, e => by
    obtain ⟨u, h1, h2⟩ := BP.Qu (i := i) (x := d) t (by simpa using e)
    exact ⟨u, by simpa using h1, h2⟩
theorem BP.DW {H : Hp} {xs : List V} {ds : List D} {i : Int} {d : D} (r : BP K H xs ds) (h : L2.DW ds i = some d) : ∃ x, L2.DW xs i = some x ∧ Rep K H x d := by
  unfold L2.DW at h ⊢
  obtain ⟨j, e1, e2⟩ := Ar h
  obtain ⟨x, e3, rx⟩ := r.get e2
  exact ⟨x, by rw [r.length, e1]; exact e3, rx⟩
theorem BP.set {H : Hp} {x : V} {d : D} (q : Rep K H x d) : ∀ {xs : List V} {ds : List D} (i : Nat), BP K H xs ds → BP K H (xs.set i x) (ds.set i d)
  | _, _, _, .nil => .nil
  | _, _, 0, .cons _ t => .cons q t
  | _, _, i + 1, .cons p t => .cons p (BP.set q i t)
theorem BP.append {H : Hp} : ∀ {xs ys : List V} {ds es : List D}, BP K H xs ds → BP K H ys es → BP K H (xs ++ ys) (ds ++ es)
  | _, _, _, _, .nil, s => s
  | _, _, _, _, .cons r t, s => .cons r (BP.append t s)
theorem BP.take {H : Hp} : ∀ {xs : List V} {ds : List D} (n : Nat), BP K H xs ds → BP K H (xs.take n) (ds.take n)
  | _, _, 0, _ => .nil
  | _, _, _ + 1, .nil => .nil
  | _, _, n + 1, .cons r t => .cons r (BP.take n t)
theorem BP.drop {H : Hp} : ∀ {xs : List V} {ds : List D} (n : Nat), BP K H xs ds → BP K H (xs.drop n) (ds.drop n)
  | _, _, 0, r => r
  | _, _, _ + 1, .nil => .nil
  | _, _, n + 1, .cons _ t => BP.drop n t
theorem AGu : NQ K (Uk K) Av := by
  intro O H x y a b d Q ok ra rb hg q
  cases rb with
  | int j =>
    cases ra with
    | lst h r =>
      obtain ⟨v, e, rv⟩ := r.DW hg
      exact .inl ⟨_, _, j, v, rfl, rfl, Dd.seq h, e, q _ H (Ao.refl H) rv⟩
    | tup h r =>
      obtain ⟨v, e, rv⟩ := r.DW hg
      exact .inr (.inl ⟨_, _, j, v, rfl, rfl, Dd.Li h, e, q _ H (Ao.refl H) rv⟩)
    | str z =>
      have hg' : (if z.length ≤ sizeLine then (L2.DW z.cps.toList j).map fun c => PyData.str ⟨#[c]⟩ else none) = some d := hg
      by_cases hz : z.length ≤ sizeLine
      · rw [if_pos hz] at hg'
        cases e : L2.DW z.cps.toList j with
        | none => rw [e] at hg'; cases hg'
        | some c =>
          rw [e] at hg'
          cases hg'
          exact .inr (.inr ⟨z, j, c, rfl, rfl, hz, e, q _ H (Ao.refl H) (.str _)⟩)
      · rw [if_neg hz] at hg'
        cases hg'
    | _ => cases hg
  | _ => cases ra <;> cases hg
theorem CG {a b : Expr} {ta tb : TE} {fa fb : PF} {pos : Pos} (hK : X.K = K) (ha : JE X K a ta fa) (hb : JE X K b tb fb) (hs : V2 b) : JE X K (.Subscript a b pos) (JZ (Uk K) ta tb) (Ac Av fa fb) :=
  ⟨by subst hK; exact nF tM ha.pe hb.pe hs, V6 AGu ha.pu hb.pu⟩
theorem AEv {a : Expr} {ta : TE} {fa : PF} {pos : Pos} (ha : JE X K a ta fa) : JE X K (.UnaryOp .USub a pos) (wK (rU fun i => .int (-i)) ta) (Ma M9 fa) := ⟨ACX AAx ha.pe, by
  intro O σ H ρ d Q ok er hf q
  obtain ⟨x, e1, hf⟩ := Ar hf
  refine ha.pu O σ H ρ x _ ok er e1 fun v H1 s1 r1 => ?_
  cases r1 with
  | int i => cases hf; exact ⟨i, rfl, q _ H1 s1 (.int _)⟩
  | _ => cases hf⟩
section
variable {a b c e : Expr} {rest : List Expr} {ta tb tc t : TE} {tA tB' : TT} {fa fb fc f : PF} {pa pb : PB} {pos : Pos}
theorem KH (h : JE X K e t f) (he : ∀ whole, isTrue e X.env whole = (do let v ← whole; standAt e.pos; holding [v] (truthy v)) := by intro _; rfl) : JT X K e (tB t) (Ax f) := ⟨AEg h.pe he, dD h.pu⟩
theorem J8 (ha : JT X K a tA pa) : JT X K (.UnaryOp .Not a pos) (tX tA) (Ff pa) := ⟨AIh ha.pe, by
  intro O σ H ρ k Q ok er hf q
  cases e1 : pa ρ with
  | none => rw [show Ff pa ρ = (pa ρ).map (!·) from rfl, e1] at hf; cases hf
  | some x =>
    rw [show Ff pa ρ = (pa ρ).map (!·) from rfl, e1] at hf
    cases hf
    exact ha.pu O σ H ρ x _ ok er e1 fun H1 s1 => q H1 s1⟩
theorem QT (ha : JT X K a tA pa) : JW X K (.BoolOp .And [a] pos) tA pa := ⟨ABb ha.pe, ha.pu⟩
theorem Oa (ha : JT X K a tA pa) : JW X K (.BoolOp .Or [a] pos) tA pa := ⟨ADk ha.pe, ha.pu⟩
theorem Qj (ha : JT X K a tA pa) (hb : JW X K (.BoolOp .And (b :: rest) pos) tB' pb) : JW X K (.BoolOp .And (a :: b :: rest) pos) (mF tA tB') (GX pa pb) := ⟨AAu ha.pe hb.pe, by
  intro O σ H ρ k Q ok er hf q
  obtain ⟨x, e1, hf⟩ := Ar hf
  refine ha.pu O σ H ρ x _ ok er e1 fun H1 s1 => ?_
  cases x with
  | true =>
    rw [if_pos rfl] at hf ⊢
    exact hb.pu O σ H1 ρ k Q (ok.mono s1) (er.Ah s1) hf fun H2 s2 => q H2 (s1.trans s2)
  | false =>
    rw [if_neg Bool.false_ne_true] at hf ⊢
    cases hf
    exact q H1 s1⟩
theorem Ny (ha : JT X K a tA pa) (hb : JW X K (.BoolOp .Or (b :: rest) pos) tB' pb) : JW X K (.BoolOp .Or (a :: b :: rest) pos) (qN tA tB') (Ft pa pb) := ⟨AFs ha.pe hb.pe, by
  intro O σ H ρ k Q ok er hf q
  obtain ⟨x, e1, hf⟩ := Ar hf
  refine ha.pu O σ H ρ x _ ok er e1 fun H1 s1 => ?_
  cases x with
  | true =>
    rw [if_pos rfl] at hf ⊢
    cases hf
    exact q H1 s1
  | false =>
    rw [if_neg Bool.false_ne_true] at hf ⊢
    exact hb.pu O σ H1 ρ k Q (ok.mono s1) (er.Ah s1) hf fun H2 s2 => q H2 (s1.trans s2)⟩
theorem JW.jt (h : JW X K e tA pa) : JT X K e tA pa := ⟨h.pe.pt, h.pu⟩
theorem Km {op} (h : JE X K a ta fa) : JE X K (.BoolOp op [a] pos) ta fa := ⟨AHS h.pe, h.pu⟩
theorem Ia (ha : JE X K a ta fa) (hb : JE X K (.BoolOp .And (b :: rest) pos) tb fb) : JE X K (.BoolOp .And (a :: b :: rest) pos) (v7 ta tb) (Gp fa fb) := ⟨AHi ha.pe hb.pe, by
  intro O σ H ρ k Q ok er hf q
  obtain ⟨x, e1, hf⟩ := Ar hf
  obtain ⟨z, e2, hf⟩ := Ar hf
  refine ha.pu O σ H ρ x _ ok er e1 fun v H1 s1 r1 => ⟨z, S7 r1 e2, ?_⟩
  cases z with
  | true =>
    rw [if_pos rfl] at hf ⊢
    exact hb.pu O σ H1 ρ k Q (ok.mono s1) (er.Ah s1) hf fun v H2 s2 => q v H2 (s1.trans s2)
  | false =>
    rw [if_neg Bool.false_ne_true] at hf ⊢
    cases hf
    exact q _ H1 s1 (.bl _)⟩
theorem AFc (ha : JE X K a ta fa) (hb : JE X K (.BoolOp .Or (b :: rest) pos) tb fb) : JE X K (.BoolOp .Or (a :: b :: rest) pos) (uC ta tb) (Tz fa fb) := ⟨AAG ha.pe hb.pe, by
  intro O σ H ρ k Q ok er hf q
  obtain ⟨x, e1, hf⟩ := Ar hf
  obtain ⟨z, e2, hf⟩ := Ar hf
  refine ha.pu O σ H ρ x _ ok er e1 fun v H1 s1 r1 => ⟨z, S7 r1 e2, ?_⟩
  cases z with
  | true =>
    rw [if_pos rfl] at hf ⊢
    cases hf
    exact q _ H1 s1 (.bl _)
  | false =>
    rw [if_neg Bool.false_ne_true] at hf ⊢
    exact hb.pu O σ H1 ρ k Q (ok.mono s1) (er.Ah s1) hf fun v H2 s2 => q v H2 (s1.trans s2)⟩
theorem tZ (ha : JE X K a ta fa) : JE X K (.UnaryOp .Not a pos) (oE ta) (Qw fa) := ⟨AHz ha.pe, by
  intro O σ H ρ k Q ok er hf q
  obtain ⟨x, e1, hf⟩ := Ar hf
  obtain ⟨z, e2, hf⟩ := Ar hf
  cases hf
  exact ha.pu O σ H ρ x _ ok er e1 fun v H1 s1 r1 => ⟨z, S7 r1 e2, q _ H1 s1 (.bl _)⟩⟩
theorem AEz (hc : JT X K c tA pa) (ha : JE X K a ta fa) (hb : JE X K b tb fb) : JE X K (.IfExp c a b pos) (nD tA ta tb) (Xz pa fa fb) := ⟨AJp hc.pe ha.pe hb.pe, by
  intro O σ H ρ k Q ok er hf q
  obtain ⟨x, e1, hf⟩ := Ar hf
  refine hc.pu O σ H ρ x _ ok er e1 fun H1 s1 => ?_
  cases x with
  | true =>
    rw [if_pos rfl] at hf ⊢
    exact ha.pu O σ H1 ρ k Q (ok.mono s1) (er.Ah s1) hf fun v H2 s2 => q v H2 (s1.trans s2)
  | false =>
    rw [if_neg Bool.false_ne_true] at hf ⊢
    exact hb.pu O σ H1 ρ k Q (ok.mono s1) (er.Ah s1) hf fun v H2 s2 => q v H2 (s1.trans s2)⟩
end
section
variable {e : Expr} {es : List Expr} {te : TE} {t : TA} {f : PF} {r : BW} {pos : Pos}
theorem Aj : JA X K [] Gy Ae := ⟨Iv, by
  intro O σ H ρ ds Q ok er hf q
  cases hf
  exact q [] H (Ao.refl H) .nil⟩
theorem Ag (ha : JE X K e te f) (hr : JA X K es t r) (hs : starEach (e :: es) X.env = (false, eval e X.env) :: starEach es X.env := by rfl) : JA X K (e :: es) (GQ te t) (Ab f r) := ⟨Ek ha.pe hr.pe hs, by
  intro O σ H ρ ds Q ok er hf q
  obtain ⟨x, e1, hf⟩ := Ar hf
  obtain ⟨xs, e2, hf⟩ := Ar hf
  cases hf
  refine ha.pu O σ H ρ x _ ok er e1 fun v H1 s1 r1 => ?_
  exact hr.pu O σ H1 ρ xs _ (ok.mono s1) (er.Ah s1) e2 fun vs H2 s2 r2 => q (v :: vs) H2 (s1.trans s2) (.cons (r1.Ah s2) r2)⟩
theorem aK {n : Nat} (h : fits n = true) : n ≤ sizeLine := Nat.le_of_lt (of_decide_eq_true h)
theorem Eu {x1} (h : JA X K es t r) : JE X K (.Tuple es x1 pos) (aZ t) (Be r) := ⟨qF h.pe, by
  intro O σ H ρ d Q ok er hf q
  obtain ⟨xs, e1, hf⟩ := Ar hf
  by_cases hc : fits xs.length = true
  · rw [if_pos hc] at hf
    cases hf
    refine h.pu O σ H ρ xs _ ok er e1 fun vs H1 s1 r1 => ⟨by rw [r1.length]; exact aK hc, fun p hp => ?_⟩
    have sn : Ao H1 (upd H1 p (.tup vs)) := Ao.new hp
    refine q _ _ (s1.trans sn) (.tup (Dt.of ?_) (r1.Ah sn))
    rw [Cm ((ok.mono s1).fresh hp)]
    exact Dz
  · rw [if_neg hc] at hf
    cases hf⟩
theorem Ef (h : JA X K es t r) : JL X K (.List es pos) (eO t) (Bm r) := ⟨nA h.pe, by
  intro O σ H ρ d Q ok er hf q
  obtain ⟨xs, e1, hf⟩ := Ar hf
  by_cases hc : fits xs.length = true
  · rw [if_pos hc] at hf
    obtain rfl : xs = d := Option.some.inj hf
    refine h.pu O σ H ρ xs _ ok er e1 fun vs H1 s1 r1 => ⟨by rw [r1.length]; exact aK hc, fun p hp => ?_⟩
    have sn : Ao H1 (upd H1 p (.lst vs)) := Ao.new hp
    refine q p vs _ (s1.trans sn) (s1.free hp) Dz ?_
    exact r1.mono (Ud hp)
  · rw [if_neg hc] at hf
    cases hf⟩
end
end
def BR (K : Frag) (n : Nat) (f : List D → Option D) : Sp := fun vs H Q _ => vs.length = n ∧ ∃ (O : List Addr) (ds : List D) (d : D), Cd O H ∧ BP K (Ah O H) vs ds ∧ f ds = some d ∧ ∀ v H', Ao H H' → Rep K (Ah O H') v d → Q v H'
def Bw (K : Frag) (n : Nat) (f : List D → Option (List D)) : Sp := fun vs H Q _ => vs.length = n ∧ ∃ (O : List Addr) (ds es : List D), Cd O H ∧ BP K (Ah O H) vs ds ∧ f ds = some es ∧
  ∀ a xs H', Ao H H' → H a = none → H' a = some (.lst xs) → BP K (Ah (a :: O) H') xs es → Q (.ref a) H'
def Ht (n : Nat) {α : Type} (f : List D → Option α) : Prop := ∀ ds a, f ds = some a → ds.length = n
section
variable {X : Cx} {K : Frag} {k n : Nat} {x : Str} {ps : List Str} {p pos : Pos} {e : Expr} {es : List Expr} {t : TA} {r : BW}
theorem Bt {f : List D → Option D} (C : Callee X.prog X.w X.K X.mg X.base k x ps (BR K n f)) (hf : Ht n f) (hr : CV k X.A) (hg : Gl X x) (ha : JA X K (e :: es) t r) (hdb : (x == ("__debug__" : Str)) = false := by decide)
    (hst : starEach (e :: es) X.env = (false, eval e X.env) :: starEach es X.env := by rfl) (hpl : (backTo pos (starEach es X.env)).any (·.1) = false := by rfl) : JE X K (.Call (.Name x p) (e :: es) [] pos) (Qz (BR K n f) [] E0 t) (Ai f r) := ⟨Yd C hr hg ha.pe hdb hst hpl, by
  intro O σ H ρ d Q ok er h q
  obtain ⟨ds, e1, h⟩ := Ar h
  refine ha.pu O σ H ρ ds _ ok er e1 fun vs H1 s1 r1 => ?_
  rw [List.append_nil]
  exact ⟨by rw [r1.length]; exact hf ds d h, O, ds, d, ok.mono s1, r1, h, fun v H' s' rv => q v H' (s1.trans s') rv⟩⟩
theorem Fq {f : List D → Option (List D)} (C : Callee X.prog X.w X.K X.mg X.base k x ps (Bw K n f)) (hf : Ht n f) (hr : CV k X.A) (hg : Gl X x) (ha : JA X K (e :: es) t r) (hdb : (x == ("__debug__" : Str)) = false := by decide)
    (hst : starEach (e :: es) X.env = (false, eval e X.env) :: starEach es X.env := by rfl) (hpl : (backTo pos (starEach es X.env)).any (·.1) = false := by rfl) : JL X K (.Call (.Name x p) (e :: es) [] pos) (Qz (Bw K n f) [] E0 t) (BX f r) := ⟨Yd C hr hg ha.pe hdb hst hpl, by
  intro O σ H ρ d Q ok er h q
  obtain ⟨ds, e1, h⟩ := Ar h
  refine ha.pu O σ H ρ ds _ ok er e1 fun vs H1 s1 r1 => ?_
  rw [List.append_nil]
  exact ⟨by rw [r1.length]; exact hf ds d h, O, ds, d, ok.mono s1, r1, h, fun a xs H' s' hn ha' rv => q a xs H' (s1.trans s') (s1.free hn) ha' rv⟩⟩
theorem Dv {id : String} {rc : List V → Hp → VK → Prop} {g : List D → Option D} (hc : Mj X K (.builtin id) rc g) (hg : Gl X x) (hm : X.mg x = none) (hv : bootBuiltins x = some (.builtin id)) (ha : JA X K (e :: es) t r) (hn : x ≠ "__name__" := by decide) (hdb : (x == ("__debug__" : Str)) = false := by decide)
    (he : starEach (e :: es) X.env = (false, eval e X.env) :: starEach es X.env := by rfl) (hpl : (backTo pos (starEach es X.env)).any (·.1) = false := by rfl) : JE X K (.Call (.Name x p) (e :: es) [] pos) (Lg rc t) (Ai g r) := ⟨RJ hc.pe hg hm hv ha.pe hn hdb he hpl, by
  intro O σ H ρ d Q ok er h q
  obtain ⟨ds, e1, h⟩ := Ar h
  exact ha.pu O σ H ρ ds _ ok er e1 fun vs H1 s1 r1 => hc.pu O H1 vs ds d Q (ok.mono s1) r1 h fun v H' s' rv => q v H' (s1.trans s') rv⟩
theorem uH {T : String} {rc : List V → Hp → VK → Prop} {g : List D → Option D} (hc : Mj X K (.type T) rc g) (hg : Gl X x) (hm : X.mg x = none) (hv : bootBuiltins x = some (.type T)) (ha : JA X K (e :: es) t r) (hn : x ≠ "__name__" := by decide) (hdb : (x == ("__debug__" : Str)) = false := by decide)
    (he : starEach (e :: es) X.env = (false, eval e X.env) :: starEach es X.env := by rfl) (hpl : (backTo pos (starEach es X.env)).any (·.1) = false := by rfl) : JE X K (.Call (.Name x p) (e :: es) [] pos) (Lg rc t) (Ai g r) := ⟨X8 hc.pe hg hm hv ha.pe hn hdb he hpl, by
  intro O σ H ρ d Q ok er h q
  obtain ⟨ds, e1, h⟩ := Ar h
  exact ha.pu O σ H ρ ds _ ok er e1 fun vs H1 s1 r1 => hc.pu O H1 vs ds d Q (ok.mono s1) r1 h fun v H' s' rv => q v H' (s1.trans s') rv⟩
theorem fW {T : String} {rc : List V → Hp → VK → Prop} {g : List D → Option (List D)} (hc : lH X K (.type T) rc g) (hg : Gl X x) (hm : X.mg x = none) (hv : bootBuiltins x = some (.type T)) (ha : JA X K (e :: es) t r) (hn : x ≠ "__name__" := by decide) (hdb : (x == ("__debug__" : Str)) = false := by decide)
    (he : starEach (e :: es) X.env = (false, eval e X.env) :: starEach es X.env := by rfl) (hpl : (backTo pos (starEach es X.env)).any (·.1) = false := by rfl) : JL X K (.Call (.Name x p) (e :: es) [] pos) (Lg rc t) (BX g r) := ⟨X8 hc.pe hg hm hv ha.pe hn hdb he hpl, by
  intro O σ H ρ d Q ok er h q
  obtain ⟨ds, e1, h⟩ := Ar h
  exact ha.pu O σ H ρ ds _ ok er e1 fun vs H1 s1 r1 => hc.pu O H1 vs ds d Q (ok.mono s1) r1 h fun a xs H' s' hn2 ha2 rv => q a xs H' (s1.trans s') (s1.free hn2) ha2 rv⟩
end
end L2
namespace L2
open PySem PySem.Spec PyProof.Rows
section
variable {X : Cx} {K : Frag}
def CN : List D → Option D
  | [.list ds] => some (.int ds.length)
  | [.tuple ds] => some (.int ds.length)
  | _ => none
def Il : List D → Option (List D)
  | [.list ds] => some ds
  | [.tuple ds] => some ds
  | _ => none
def Ol : List D → Option (List Bool)
  | [] => some []
  | .bool b :: r => (Ol r).bind fun bs => some (b :: bs)
  | _ => none
def Lz : List D → Option D
  | [.list ds] => (Ol ds).bind fun bs => some (.bool (bs.all id))
  | _ => none
def Mr : List D → Option D
  | [.int i, .int j] => some (.int (max i j))
  | _ => none
def AJc : List D → Option D
  | [.int i, .int j] => some (.int (min i j))
  | _ => none
def Kd : List D → Option D
  | [.int i] => some (.int i)
  | [.bool b] => some (.int (if b then 1 else 0))
  | _ => none
theorem rep1 {H : Hp} {vs : List V} {d : D} (r : BP K H vs [d]) : ∃ v, vs = [v] ∧ Rep K H v d := by
  cases r with
  | cons a b => cases b; exact ⟨_, rfl, a⟩
theorem rep2 {H : Hp} {vs : List V} {d e : D} (r : BP K H vs [d, e]) : ∃ v u, vs = [v, u] ∧ Rep K H v d ∧ Rep K H u e := by
  cases r with
  | cons a b =>
    obtain ⟨u, e1, r2⟩ := rep1 b
    exact ⟨_, u, by rw [e1], a, r2⟩
theorem GC (hK : X.K = K) : Mj X K (.builtin "len") (fun xs H Q => ∃ p ys, xs = [.ref p] ∧ (Bl K H p ys ∨ Dt K H p ys) ∧ Q (.int ys.length) H) CN := ⟨by subst hK; exact AH5, by
  intro O H vs ds d Q ok r hg q
  unfold CN at hg
  split at hg
  · rename_i es
    cases hg
    obtain ⟨v, rfl, r1⟩ := rep1 r
    cases r1 with
    | lst h r' => exact ⟨_, _, rfl, .inl (Dd.seq h), by rw [r'.length]; exact q _ H (Ao.refl H) (.int _)⟩
  · rename_i es
    cases hg
    obtain ⟨v, rfl, r1⟩ := rep1 r
    cases r1 with
    | tup h r' => exact ⟨_, _, rfl, .inr (Dd.Li h), by rw [r'.length]; exact q _ H (Ao.refl H) (.int _)⟩
  · cases hg⟩
theorem fZ (hK : X.K = K) : lH X K (.type "list") (fun xs H Q => ∃ p ys, xs = [.ref p] ∧ (Bl K H p ys ∨ Dt K H p ys) ∧ ∀ l, H l = none → Q (.ref l) (upd H l (.lst ys))) Il := ⟨by subst hK; exact AGt, by
  intro O H vs ds d Q ok r hg q
  unfold Il at hg
  split at hg
  · rename_i es
    cases hg
    obtain ⟨v, rfl, r1⟩ := rep1 r
    cases r1 with
    | lst h r' => exact ⟨_, _, rfl, .inl (Dd.seq h), fun l hl => q l _ _ (Ao.new hl) hl Dz (r'.mono (Ud hl))⟩
  · rename_i es
    cases hg
    obtain ⟨v, rfl, r1⟩ := rep1 r
    cases r1 with
    | tup h r' => exact ⟨_, _, rfl, .inr (Dd.Li h), fun l hl => q l _ _ (Ao.new hl) hl Dz (r'.mono (Ud hl))⟩
  · cases hg⟩
theorem uF {H : Hp} : ∀ {vs : List V} {ds : List D} {bs : List Bool}, BP K H vs ds → Ol ds = some bs → vs = bs.map V.bl
  | _, _, _, .nil, h => by cases h; rfl
  | _, _, _, .cons (.bl b) t, h => by
    obtain ⟨bs, e, h⟩ := Ar h
    cases h
    rw [uF t e]
    rfl
  | _, _, _, .cons .non t, h => by cases h
  | _, _, _, .cons (.int _) t, h => by cases h
  | _, _, _, .cons (.str _) t, h => by cases h
  | _, _, _, .cons (.lst _ _) t, h => by cases h
  | _, _, _, .cons (.tup _ _) t, h => by cases h
theorem iI (hK : X.K = K) (hh : X.A.handled = none) : Mj X K (.builtin "all") (fun xs H Q => ∃ (a : Addr) (bs : List Bool), xs = [.ref a] ∧ Bl K H a (bs.map V.bl) ∧ Q (.bl (bs.all id)) H) Lz := ⟨by
  subst hK
  intro pins s σ H xs us Q I r h
  exact ACQ pins s σ H xs us Q I r ⟨hh, h⟩, by
  intro O H vs ds d Q ok r hg q
  unfold Lz at hg
  split at hg
  · rename_i es
    obtain ⟨bs, e, hg⟩ := Ar hg
    cases hg
    obtain ⟨v, rfl, r1⟩ := rep1 r
    cases r1 with
    | lst h r' =>
      have e2 := uF r' e
      subst e2
      exact ⟨_, bs, rfl, Dd.seq h, q _ H (Ao.refl H) (.bl _)⟩
  · cases hg⟩
theorem nR (hc : X.calm = true) : Mj X K (.builtin "max") (fun xs H Q => ∃ i j, xs = [.int i, .int j] ∧ Q (.int (if j > i then j else i)) H) Mr := ⟨AHv hc, by
  intro O H vs ds d Q ok r hg q
  unfold Mr at hg
  split at hg
  · rename_i i j
    cases hg
    obtain ⟨v, u, rfl, r1, r2⟩ := rep2 r
    cases r1
    cases r2
    refine ⟨i, j, rfl, ?_⟩
    have e : (if j > i then j else i) = max i j := by omega
    rw [e]
    exact q _ H (Ao.refl H) (.int _)
  · cases hg⟩
theorem uP : Mj X K (.type "int") (fun xs H Q => (∃ i, xs = [.int i] ∧ Q (.int i) H) ∨ ∃ k, xs = [.bl k] ∧ Q (.int (if k then 1 else 0)) H) Kd := ⟨AEu, by
  intro O H vs ds d Q ok r hg q
  unfold Kd at hg
  split at hg
  · rename_i i
    cases hg
    obtain ⟨v, rfl, r1⟩ := rep1 r
    cases r1
    exact .inl ⟨i, rfl, q _ H (Ao.refl H) (.int _)⟩
  · rename_i b
    cases hg
    obtain ⟨v, rfl, r1⟩ := rep1 r
    cases r1
    exact .inr ⟨b, rfl, q _ H (Ao.refl H) (.int _)⟩
  · cases hg⟩
def Ib : D → String
  | .none => "NoneType"
  | .bool _ => "bool"
  | .int _ => "int"
  | .str _ => "str"
  | .list _ => "list"
  | .tuple _ => "tuple"
  | .dict [] => "dict"
  | .dict (_ :: _) => "object"
def Jx (U : String) (f : PF) : PF := fun ρ => (f ρ).bind fun d => some (.bool (Jl (Ib d) U))
theorem ACn {pins : List (Addr × Obj)} {σ : St} {H : Hp} {s : Shared} {Q : Value → Shared → Prop} {E : Value → Shared → Prop} {A : Around} {x : V} {u : Value} {d : D} {U : String} (I : Inv X pins σ H s) (r : Rep X.K H x d) (rx : RelV x u) (hU : U ∈ ["bool", "int", "str", "list", "tuple"]) (h : ∀ tk, Q (.bool (Jl (Ib d) U)) { s with toks := tk }) : wpAny (model X.prog X.w) A (call (.builtin "isinstance") [u, .type U]) Q E s := by
  cases r with
  | non => exact Qi I rx .non (Ph X.K "NoneType" U (by simp) hU) h
  | bl b => exact Qi I rx (.bl b) (Ph X.K "bool" U (by simp) hU) h
  | int i => exact Qi I rx (.int i) (Ph X.K "int" U (by simp) hU) h
  | str i => exact Qi I rx (.str i) (Ph X.K "str" U (by simp) hU) h
  | lst q r' =>
    cases rx
    obtain ⟨its, _, pl, _⟩ := I.list q
    exact kia_one PySem.W.kitx_list I.DP pl.isList.typeIs (Ph X.K "list" U (by simp) hU) (fun z => nomatch z) h
  | tup q r' =>
    cases rx
    obtain ⟨its, _, pl, _⟩ := I.tuple q
    exact kia_one PySem.W.kitx_tuple I.DP pl.typeIs (Ph X.K "tuple" U (by simp) hU) (fun z => nomatch z) h
  | dic e => exact Qi I rx (.dK e) (Ph X.K "dict" U (by simp) hU) h
  | obj k e _ z =>
    subst z
    have hf : ∀ (ks : List Str) (ds : List D), Jl (Ib (.dict (Dq ks ds))) U = false := fun ks ds => by
      simp only [List.mem_cons, List.mem_nil_iff, or_false] at hU
      rcases hU with rfl | rfl | rfl | rfl | rfl <;> rfl
    rw [hf] at h
    exact Qi I rx (.ins e k.cl k.ha k.hn k.htk k.hm) (k.ki U hU) h
theorem AIm (K : Frag) (hK : X.K = K) : Hj X (.builtin "isinstance") (fun xs H Q => ∃ x d U, xs = [x, .ty U] ∧ Rep K H x d ∧ U ∈ ["bool", "int", "str", "list", "tuple"] ∧ Q (.bl (Jl (Ib d) U)) H) := by
  subst hK
  intro pins s σ H xs us Q I r h
  obtain ⟨x, d, U, rfl, rd, hU, q⟩ := h
  obtain ⟨u, u', rfl, rx, ry⟩ := vals2 r
  obtain rfl : u' = Value.type U := ry
  exact ACn I rd rx hU fun tk => ⟨.bl _, H, I.tok tk, rfl, q⟩
theorem Mh {e : Expr} {te : TE} {f : PF} {p p2 pos : Pos} {y : Str} (U : String) (hK : X.K = K) (hU : U ∈ ["bool", "int", "str", "list", "tuple"]) (hg : Gl X "isinstance") (hm : X.mg "isinstance" = none) (hg2 : Gl X y) (hm2 : X.mg y = none) (hv2 : bootBuiltins y = some (.type U)) (ha : JE X K e te f) (hn : y ≠ "__name__" := by decide) (hd : (y == ("__debug__" : Str)) = false := by decide)
    (he : starEach [e, .Name y p2] X.env = (false, eval e X.env) :: starEach [.Name y p2] X.env := by rfl) (he2 : starEach [.Name y p2] X.env = (false, eval (.Name y p2) X.env) :: starEach [] X.env := by rfl) (hpl : (backTo pos (starEach [.Name y p2] X.env)).any (·.1) = false := by rfl) :
    JE X K (.Call (.Name "isinstance" p) [e, .Name y p2] [] pos) (Lg (fun xs H Q => ∃ x d U, xs = [x, .ty U] ∧ Rep K H x d ∧ U ∈ ["bool", "int", "str", "list", "tuple"] ∧ Q (.bl (Jl (Ib d) U)) H) (GQ te (GQ (tC (.ty U)) Gy))) (Jx U f) :=
  ⟨RJ (AIm K hK) hg hm boot_isinstance (Ek ha.pe (Ek (yI hg2 hm2 hv2 rfl hn hd) Iv he2) he) (by decide) (by decide) he hpl, by
  intro O σ H ρ d Q ok er h q
  obtain ⟨x, e1, h⟩ := Ar h
  cases h
  refine ha.pu O σ H ρ x _ ok er e1 fun v H1 s1 r1 => ?_
  exact ⟨v, x, U, rfl, r1.mono Dd, hU, q _ H1 s1 (.bl _)⟩⟩
def PuO (K : Frag) (t : TO) (f : Bf → Option (Option Int)) : Prop := ∀ (O : List Addr) (σ : St) (H : Hp) (ρ : Bf) (b : Option Int) (Q : Option Int → Hp → Prop), Cd O H → Dm K (Ah O H) σ ρ → f ρ = some b →
  (∀ H', Ao H H' → Q b H') → t σ H Q
structure JO (X : Cx) (K : Frag) (e : Option Expr) (t : TO) (f : Bf → Option (Option Int)) : Prop where
  pe : PO X e t
  pu : PuO K t f
def Ij : D → Option Int
  | .int i => some i
  | _ => none
def Iu : Bf → Option (Option Int) := fun _ => some none
def Fj (f : PF) : Bf → Option (Option Int) := fun ρ => (f ρ).bind fun d => (Ij d).bind fun i => some (some i)
theorem Zb : JO X K none qC Iu := ⟨AHu, by
  intro O σ H ρ b Q ok er h q
  cases h
  exact q H (Ao.refl H)⟩
theorem S5 {e : Expr} {te : TE} {f : PF} (h : JE X K e te f) : JO X K (some e) (mX te) (Fj f) := ⟨AGL h.pe, by
  intro O σ H ρ b Q ok er hf q
  obtain ⟨x, e1, hf⟩ := Ar hf
  obtain ⟨i, e2, hf⟩ := Ar hf
  cases hf
  refine h.pu O σ H ρ x _ ok er e1 fun v H1 s1 r1 => ?_
  cases r1 with
  | int j => cases e2; exact ⟨_, rfl, q H1 s1⟩
  | _ => cases e2⟩
def cutD (xs : List D) (lo hi : Option Int) : List D := (xs.drop (HT.De xs.length 0 lo)).take (HT.De xs.length xs.length hi - HT.De xs.length 0 lo)
theorem BP.cut {H : Hp} {xs : List V} {ds : List D} (r : BP K H xs ds) (lo hi : Option Int) : BP K H (RT xs lo hi) (cutD ds lo hi) := by
  unfold RT cutD
  rw [r.length]
  exact (r.drop _).take _
def Lw : D → Option (List D)
  | .list ds => some ds
  | _ => none
def xM : D → Option (List D)
  | .tuple ds => some ds
  | _ => none
def Gz (f : PF) (l u : Bf → Option (Option Int)) : BW := fun ρ => (f ρ).bind fun d => (l ρ).bind fun lo => (u ρ).bind fun hi => (Lw d).bind fun ds => some (cutD ds lo hi)
theorem Wv {e : Expr} {te : TE} {f : PF} {lo hi : Option Expr} {tl th : TO} {fl fh : Bf → Option (Option Int)} {p2 pos : Pos} (hK : X.K = K) (he : JE X K e te f) (hl : JO X K lo tl fl) (hu : JO X K hi th fh) :
    JL X K (.Subscript e (.Slice lo hi none p2) pos) (tR (vY K) te tl th) (Gz f fl fh) := ⟨by subst hK; exact AGb AGQ he.pe hl.pe hu.pe, by
  intro O σ H ρ ds Q ok er hf q
  obtain ⟨x, e1, hf⟩ := Ar hf
  obtain ⟨l, e2, hf⟩ := Ar hf
  obtain ⟨u, e3, hf⟩ := Ar hf
  obtain ⟨es, e4, hf⟩ := Ar hf
  cases hf
  refine he.pu O σ H ρ x _ ok er e1 fun v H1 s1 r1 => ?_
  refine hl.pu O σ H1 ρ l _ (ok.mono s1) (er.Ah s1) e2 fun H2 s2 => ?_
  refine hu.pu O σ H2 ρ u _ ((ok.mono s1).mono s2) (er.Ah (s1.trans s2)) e3 fun H3 s3 => ?_
  have r3 := r1.Ah (s2.trans s3)
  cases r3 with
  | lst h r' =>
    cases e4
    refine ⟨_, _, rfl, Dd.seq h, fun p hp => ?_⟩
    have s03 := (s1.trans s2).trans s3
    exact q p _ _ (s03.trans (Ao.new hp)) (s03.free hp) Dz ((r'.cut l u).mono (Ud hp))
  | _ => cases e4⟩
def lU (K : Frag) : R2 := fun x y H Q => ∃ l b xs zs, x = .ref l ∧ y = .ref b ∧ Bl K H l xs ∧ Bl K H b zs ∧ xs.length + zs.length ≤ sizeLine ∧ ∀ p, H p = none → Q (.ref p) (upd H p (.lst (xs ++ zs)))
theorem AFN : EY X (binaryOp .Add) (lU X.K) := by
  intro pins s σ H x y v u Q I rx ry h
  obtain ⟨l, b, xs, zs, rfl, rfl, hH, hB, hz, q⟩ := h
  cases rx
  cases ry
  obtain ⟨its, r, pl, hl⟩ := I.list hH
  obtain ⟨its2, r2, pl2, hl2⟩ := I.list hB
  obtain ⟨⟨cls, dd, data, sl⟩, n, ho, hc, hd, hs⟩ := pl
  obtain ⟨⟨cls2, dd2, data2, sl2⟩, n2, ho2, hc2, hd2, hs2⟩ := pl2
  simp only at hc hd hs hc2 hd2 hs2
  subst hc hd hs hc2 hd2 hs2
  have e : its.toArray ++ its2.toArray = (its ++ its2).toArray := by simp
  refine concat_meets ⟨_, ho, rfl⟩ ⟨_, ho2, rfl⟩ noFill_list_add seq_list_add PySem.F.slot_list_add PySem.F.entry_list_add (PySem.F.args_list_add_2 _ _) (list_addW l b its.toArray its2.toArray n n2 none none sl sl2 (by have := r.length; have := r2.length; simp; omega)) ⟨ho, ho2, ?_⟩
  rw [e]
  exact ⟨.ref _, _, I.t6 (t' := s.toks) (r.append r2) (by rw [List.length_append]; omega), rfl, q _ I.fresh⟩
def GF (a b : PF) : BW := fun ρ => (a ρ).bind fun x => (b ρ).bind fun y => (Lw x).bind fun xs => (Lw y).bind fun ys => if fits (xs.length + ys.length) = true then some (xs ++ ys) else none
theorem lE {a b : Expr} {ta tb : TE} {fa fb : PF} {pos : Pos} (hK : X.K = K) (ha : JE X K a ta fa) (hb : JE X K b tb fb) : JL X K (.BinOp a .Add b pos) (JZ (lU K) ta tb) (GF fa fb) := ⟨by subst hK; exact yN AFN ha.pe hb.pe, by
  intro O σ H ρ ds Q ok er hf q
  obtain ⟨x, e1, hf⟩ := Ar hf
  obtain ⟨y, e2, hf⟩ := Ar hf
  obtain ⟨xs, e3, hf⟩ := Ar hf
  obtain ⟨ys, e4, hf⟩ := Ar hf
  by_cases hc : fits (xs.length + ys.length) = true
  · rw [if_pos hc] at hf
    cases hf
    refine ha.pu O σ H ρ x _ ok er e1 fun v H1 s1 r1 => ?_
    refine hb.pu O σ H1 ρ y _ (ok.mono s1) (er.Ah s1) e2 fun u H2 s2 r2 => ?_
    have r1' := r1.Ah s2
    cases r1' with
    | lst h r' =>
      cases e3
      cases r2 with
      | lst h2 r2' =>
        cases e4
        refine ⟨_, _, _, _, rfl, rfl, Dd.seq h, Dd.seq h2, by rw [r'.length, r2'.length]; exact aK hc, fun p hp => ?_⟩
        have s02 := s1.trans s2
        exact q p _ _ (s02.trans (Ao.new hp)) (s02.free hp) Dz ((r'.append r2').mono (Ud hp))
      | _ => cases e4
    | _ => cases e3
  · rw [if_neg hc] at hf
    cases hf⟩
end
end L2
namespace L2
open PySem PySem.Spec PyProof.Rows
def Mi (K : Frag) (G : Hp) (J : It) (items : List D) : Prop := ∀ (Oc : List Addr) (H' : Hp), Cd Oc H' → Ao G (Ah Oc H') →
  (∀ i, i < items.length → J.go i H') ∧ (∀ i x H'', i < items.length → J.yld i H' x H'' → ∃ d, items[i]? = some d ∧ Ao H' H'' ∧ Rep K (Ah Oc H'') x d) ∧ J.stop items.length H'
def Yc (K : Frag) (wi : TI) (f : BW) : Prop := ∀ (O : List Addr) (σ : St) (H : Hp) (ρ : Bf) (items : List D) (R : It → Hp → Prop), Cd O H → Dm K (Ah O H) σ ρ → f ρ = some items →
  (∀ J H1, Ao H H1 → Mi K (Ah O H1) J items → R J H1) → wi σ H R
structure JI (X : Cx) (K : Frag) (tg e : Expr) (wi : TI) (f : BW) : Prop where
  pe : PI X tg e wi
  pu : Yc K wi f
def DX (f : PF) : BW := fun ρ => (f ρ).bind Lw
def O3 (f : PF) : BW := fun ρ => (f ρ).bind xM
def Gm (lo : Int) (n : Nat) : List D := (List.range n).map fun i => .int (lo + (i : Nat))
def Em : List D → Option (List D)
  | [.int j] => if -(2 ^ 62) ≤ j ∧ j < 2 ^ 62 then some (Gm 0 j.toNat) else none
  | _ => none
def AG1 : List D → Option (List D)
  | [.int i, .int j] => if -(2 ^ 62) ≤ i ∧ i < 2 ^ 62 ∧ -(2 ^ 62) ≤ j ∧ j < 2 ^ 62 then some (Gm i (j - i).toNat) else none
  | _ => none
def Jg (ds : List D) : List D := ds.zipIdx.map fun p => .tuple [.int (p.2 : Nat), p.1]
def LQ : List D → Option (List D)
  | [.list ds] => some (Jg ds)
  | _ => none
def Mg (xs ys : List D) : List D := List.zipWith (fun a b => .tuple [a, b]) xs ys
def O7 : List D → Option (List D)
  | [.list xs, .list ys] => some (Mg xs ys)
  | _ => none
section
variable {X : Cx} {K : Frag} {tg : Expr}
theorem ABy {G : Hp} {a : Addr} {xs : List V} {ds : List D} (h : Bl K G a xs) (r : BP K G xs ds) : Mi K G (eY K a) ds := by
  intro Oc H' ok s
  have hq : Bl K H' a xs := (s.trans Dd).seq h
  have hl := r.length
  refine ⟨fun i hi => ⟨xs, xs[i], hq, by simp [show i < xs.length by omega]⟩, fun i x H'' hi y => ?_, ⟨xs, hq, by omega⟩⟩
  obtain ⟨e, y⟩ := y
  subst e
  obtain ⟨d, e, rd⟩ := r.Qu (y xs hq)
  exact ⟨d, e, Ao.refl _, rd.mono s⟩
theorem ABc {G : Hp} {a : Addr} {xs : List V} {ds : List D} (h : Dt K G a xs) (r : BP K G xs ds) : Mi K G (iQ K a) ds := by
  intro Oc H' ok s
  have hq : Dt K H' a xs := (s.trans Dd).Li h
  have hl := r.length
  refine ⟨fun i hi => ⟨xs, xs[i], hq, by simp [show i < xs.length by omega]⟩, fun i x H'' hi y => ?_, ⟨xs, hq, by omega⟩⟩
  obtain ⟨e, y⟩ := y
  subst e
  obtain ⟨d, e, rd⟩ := r.Qu (y xs hq)
  exact ⟨d, e, Ao.refl _, rd.mono s⟩
theorem wD (lo : Int) (n : Nat) : (Gm lo n).length = n := by simp [Gm]
theorem AJ4 {lo : Int} {n i : Nat} (h : i < n) : (Gm lo n)[i]? = some (.int (lo + (i : Nat))) := by simp [Gm, h]
theorem oF {G : Hp} {lo : Int} {n : Nat} : Mi K G (Ym lo n) (Gm lo n) := by
  intro Oc H' ok s
  rw [wD]
  refine ⟨fun i hi => hi, fun i x H'' hi y => ?_, Nat.le_refl _⟩
  obtain ⟨e, y⟩ := y
  subst e y
  exact ⟨_, AJ4 hi, Ao.refl _, .int _⟩
theorem AHk {ds : List D} {i : Nat} {d : D} (h : ds[i]? = some d) : (Jg ds)[i]? = some (.tuple [.int (i : Nat), d]) := by
  unfold Jg
  rw [List.getElem?_map, List.getElem?_zipIdx, h]
  simp
theorem AKV {G : Hp} {a : Addr} {xs : List V} {ds : List D} (h : Bl K G a xs) (r : BP K G xs ds) : Mi K G (dH K a) (Jg ds) := by
  intro Oc H' ok s
  have hq : Bl K H' a xs := (s.trans Dd).seq h
  have hl := r.length
  have hn : (Jg ds).length = ds.length := by simp [Jg]
  rw [hn]
  refine ⟨fun i hi => ⟨xs, xs[i], hq, by simp [show i < xs.length by omega]⟩, fun i x H'' hi y => ?_, ⟨xs, hq, by omega⟩⟩
  obtain ⟨p, z, hp, rfl, rfl, y⟩ := y
  obtain ⟨d, e, rd⟩ := r.Qu (y xs hq)
  have sn : Ao H' (upd H' p (.tup [.int i, z])) := Ao.new hp
  refine ⟨_, AHk e, sn, .tup (Dt.of ?_) (.cons (.int _) (.cons ((rd.mono s).Ah sn) .nil))⟩
  rw [Cm (ok.fresh hp)]
  exact Dz
theorem AKB {G : Hp} {a b : Addr} {xs ys : List V} {ds es : List D} (h : Bl K G a xs) (r : BP K G xs ds) (h2 : Bl K G b ys) (r2 : BP K G ys es) : Mi K G (ZW K a b) (Mg ds es) := by
  intro Oc H' ok s
  have hq : Bl K H' a xs := (s.trans Dd).seq h
  have hq2 : Bl K H' b ys := (s.trans Dd).seq h2
  have hl := r.length
  have hl2 := r2.length
  have hn : (Mg ds es).length = min ds.length es.length := by simp [Mg]
  rw [hn]
  refine ⟨fun i hi => ⟨xs, ys, xs[i], ys[i], hq, hq2, by simp [show i < xs.length by omega], by simp [show i < ys.length by omega]⟩, fun i x H'' hi y => ?_, ⟨xs, ys, hq, hq2, by omega⟩⟩
  obtain ⟨p, u, z, hp, rfl, rfl, y1, y2⟩ := y
  obtain ⟨d, e, rd⟩ := r.Qu (y1 xs hq)
  obtain ⟨d2, e2, rd2⟩ := r2.Qu (y2 ys hq2)
  have sn : Ao H' (upd H' p (.tup [u, z])) := Ao.new hp
  refine ⟨.tuple [d, d2], ?_, sn, .tup (Dt.of ?_) (.cons ((rd.mono s).Ah sn) (.cons ((rd2.mono s).Ah sn) .nil))⟩
  · unfold Mg
    rw [List.getElem?_zipWith, e, e2]
  · rw [Cm (ok.fresh hp)]
    exact Dz
theorem J0 {l : Expr} {tl : TE} {f : PF} (hK : X.K = K) (h : JE X K l tl f) : JI X K tg l (uZ K tl) (DX f) := ⟨by subst hK; exact AEq h.pe, by
  intro O σ H ρ items R ok er hf q
  obtain ⟨x, e1, hf⟩ := Ar hf
  refine h.pu O σ H ρ x _ ok er e1 fun v H1 s1 r1 => ?_
  cases r1 with
  | lst hq r' => cases hf; exact ⟨_, rfl, ⟨_, Dd.seq hq⟩, q _ H1 s1 (ABy hq r')⟩
  | _ => cases hf⟩
theorem ABu {l : Expr} {tl : TE} {f : PF} (hK : X.K = K) (h : JE X K l tl f) : JI X K tg l (yP K tl) (O3 f) := ⟨by subst hK; exact AIB h.pe, by
  intro O σ H ρ items R ok er hf q
  obtain ⟨x, e1, hf⟩ := Ar hf
  refine h.pu O σ H ρ x _ ok er e1 fun v H1 s1 r1 => ?_
  cases r1 with
  | tup hq r' => cases hf; exact ⟨_, rfl, ⟨_, Dd.Li hq⟩, q _ H1 s1 (ABc hq r')⟩
  | _ => cases hf⟩
theorem Ru {a : Expr} {ta : TA} {r : BW} {p pos : Pos} (hg : Gl X "range") (hm : X.mg "range" = none) (ha : JA X K [a] ta r) (hs : starEach [a] X.env = [(false, eval a X.env)] := by rfl) : JI X K tg (.Call (.Name "range" p) [a] [] pos) (eQ ta) (BX Em r) := ⟨vH hg hm ha.pe hs, by
  intro O σ H ρ items R ok er hf q
  obtain ⟨ds, e1, hf⟩ := Ar hf
  refine ha.pu O σ H ρ ds _ ok er e1 fun vs H1 s1 r1 => ?_
  unfold Em at hf
  split at hf
  · rename_i j
    obtain ⟨v, rfl, rv⟩ := rep1 r1
    cases rv
    by_cases hc : -(2 ^ 62) ≤ j ∧ j < 2 ^ 62
    · rw [if_pos hc] at hf
      cases hf
      exact ⟨j, rfl, hc.1, hc.2, q _ H1 s1 oF⟩
    · rw [if_neg hc] at hf
      cases hf
  · cases hf⟩
theorem dB {elts : List Expr} {k1 : Nat} {tpos : Pos} {a : Expr} {ta : TA} {r : BW} {p pos : Pos} (hK : X.K = K) (hg : Gl X "enumerate") (hm : X.mg "enumerate" = none) (ha : JA X K [a] ta r) (hs : starEach [a] X.env = [(false, eval a X.env)] := by rfl) :
    JI X K (.Tuple elts k1 tpos) (.Call (.Name "enumerate" p) [a] [] pos) (qZ K ta) (BX LQ r) := ⟨by subst hK; exact AIE hg hm ha.pe hs, by
  intro O σ H ρ items R ok er hf q
  obtain ⟨ds, e1, hf⟩ := Ar hf
  refine ha.pu O σ H ρ ds _ ok er e1 fun vs H1 s1 r1 => ?_
  unfold LQ at hf
  split at hf
  · rename_i es
    obtain ⟨v, rfl, rv⟩ := rep1 r1
    cases hf
    cases rv with
    | lst hq r' => exact ⟨_, rfl, ⟨_, Dd.seq hq⟩, q _ H1 s1 (AKV hq r')⟩
  · cases hf⟩
theorem ADL {elts : List Expr} {k1 : Nat} {tpos : Pos} {a b : Expr} {ta : TA} {r : BW} {p pos : Pos} (hK : X.K = K) (hg : Gl X "zip") (hm : X.mg "zip" = none) (ha : JA X K [a, b] ta r) (hs : starEach [a, b] X.env = [(false, eval a X.env), (false, eval b X.env)] := by rfl) (hs2 : starEach [b] X.env = [(false, eval b X.env)] := by rfl) :
    JI X K (.Tuple elts k1 tpos) (.Call (.Name "zip" p) [a, b] [] pos) (sO K ta) (BX O7 r) := ⟨by subst hK; exact AJu hg hm ha.pe hs hs2, by
  intro O σ H ρ items R ok er hf q
  obtain ⟨ds, e1, hf⟩ := Ar hf
  refine ha.pu O σ H ρ ds _ ok er e1 fun vs H1 s1 r1 => ?_
  unfold O7 at hf
  split at hf
  · rename_i xs ys
    obtain ⟨v, u, rfl, rv, ru⟩ := rep2 r1
    cases hf
    cases rv with
    | lst hq r' =>
      cases ru with
      | lst hq2 r2' => exact ⟨_, _, rfl, ⟨_, Dd.seq hq⟩, ⟨_, Dd.seq hq2⟩, q _ H1 s1 (AKB hq r' hq2 r2')⟩
  · cases hf⟩
end
def iU (K : Frag) (g : TG) (bd : D → Bf → Option Bf) : Prop := ∀ (O : List Addr) (v : V) (d : D) (σ : St) (H : Hp) (ρ ρ' : Bf) (Q : St → Hp → Prop), Cd O H → Rep K (Ah O H) v d → Dm K (Ah O H) σ ρ → σ.length = ρ.length → bd d ρ = some ρ' →
  (∀ σ', σ'.length = ρ'.length → Dm K (Ah O H) σ' ρ' → Q σ' H) → g v σ H Q
structure JG (X : Cx) (K : Frag) (tg : Expr) (g : TG) (bd : D → Bf → Option Bf) : Prop where
  pe : PG X tg g
  pu : iU K g bd
def Ca (i : Nat) : D → Bf → Option Bf := fun d ρ => some (ρ.set i (some d))
def Ks (i j : Nat) : D → Bf → Option Bf
  | .tuple [a, b], ρ => some ((ρ.set i (some a)).set j (some b))
  | _, _ => none
theorem Dm.set {K : Frag} {H : Hp} {σ : St} {ρ : Bf} {v : V} {d : D} (e : Dm K H σ ρ) (hl : σ.length = ρ.length) (r : Rep K H v d) (i : Nat) : Dm K H (σ.set i (some v)) (ρ.set i (some d)) := fun j d' h => by
  by_cases hj : i = j
  · subst hj
    by_cases hi : i < ρ.length
    · rw [List.getElem?_set_self hi] at h
      cases h
      exact ⟨v, by rw [List.getElem?_set_self (by omega)], r⟩
    · rw [List.getElem?_eq_none (by simp; omega)] at h
      cases h
  · rw [List.getElem?_set_ne hj] at h
    obtain ⟨u, e1, r1⟩ := e j d' h
    exact ⟨u, by rw [List.getElem?_set_ne hj]; exact e1, r1⟩
section
variable {X : Cx} {K : Frag} {pos : Pos}
theorem JF {i : Nat} {x : Str} (hN : X.N.Nodup) (hi : X.N[i]? = some x) (hx : Loc X.env.scope x) (hf : X.fn x = true ∨ X.env.scope.names.lookup x = some .local := by first | exact .inl rfl | exact .inr rfl | assumption) : JG X K (.Name x pos) (El i) (Ca i) := ⟨Ko hN hi hx hf, by
  intro O v d σ H ρ ρ' Q ok r er hl hb q
  cases hb
  exact q _ (by simp [hl]) (er.set hl r i)⟩
theorem Zz {i j : Nat} {x y : Str} {p1 p2 : Pos} {k : Nat} (hK : X.K = K) (hc : X.calm = true) (hN : X.N.Nodup) (hi : X.N[i]? = some x) (hx : Loc X.env.scope x) (hj : X.N[j]? = some y) (hy : Loc X.env.scope y) (hf : X.fn x = true ∨ X.env.scope.names.lookup x = some .local := by first | exact .inl rfl | exact .inr rfl | assumption) (hf2 : X.fn y = true ∨ X.env.scope.names.lookup y = some .local := by first | exact .inl rfl | exact .inr rfl | assumption) (h1 : (assignEach [.Name x p1, .Name y p2] X.env).map (·.2) = assign (.Name x p1) X.env :: (assignEach [.Name y p2] X.env).map (·.2) := by rfl) (h2 : (assignEach [.Name y p2] X.env).map (·.2) = assign (.Name y p2) X.env :: (assignEach [] X.env).map (·.2) := by rfl) (hn : (assignEach [.Name x p1, .Name y p2] X.env).length = 2 := by rfl) (hst : (assignEach [.Name x p1, .Name y p2] X.env).findIdx? (·.1) = none := by rfl) :
    JG X K (.Tuple [.Name x p1, .Name y p2] k pos) (VH K 2 (KJ (El i) (KJ (El j) Uc))) (Ks i j) := ⟨by
  subst hK
  exact j0 hc (Oj (Ko hN hi hx hf) (Oj (Ko hN hj hy hf2) Zj h2) h1) hn hst, by
  intro O v d σ H ρ ρ' Q ok r er hl hb q
  unfold Ks at hb
  split at hb
  · rename_i a b _
    cases hb
    cases r with
    | tup hq r' =>
      obtain ⟨v1, v2, rfl, r1, r2⟩ := rep2 r'
      refine ⟨_, _, rfl, Dd.Li hq, rfl, _, _, rfl, _, _, rfl, rfl, ?_⟩
      exact q _ (by simp [hl]) ((er.set hl r1 i).set (by simp [hl]) r2 j)
  · cases hb⟩
end
def Jq (bd : D → Bf → Option Bf) (pt : PB) (fe : PF) (ρ0 : Bf) : List D → Option (List D)
  | [] => some []
  | d :: ds => (bd d ρ0).bind fun ρ1 => (pt ρ1).bind fun b => if b = true then (fe ρ1).bind fun e => (Jq bd pt fe ρ0 ds).bind fun r => some (e :: r) else Jq bd pt fe ρ0 ds
def compEnv (n : Nat) (is : List Nat) (ρ : Bf) : Bf := List.replicate n none ++ is.map fun i => (ρ[i]?).join
def CT (fi : BW) (bd : D → Bf → Option Bf) (pt : PB) (fe : PF) (n : Nat) (is : List Nat) : BW := fun ρ => (fi ρ).bind fun items => if fits items.length = true then Jq bd pt fe (compEnv n is ρ) items else none
theorem rC {K : Frag} {H : Hp} {σ : St} {ρ : Bf} {n : Nat} {fv : List (Nat × Str)} (e : Dm K H σ ρ) : Dm K H (HB n fv σ) (compEnv n (fv.map (·.1)) ρ) := fun i d h => by
  unfold compEnv at h
  by_cases hi : i < n
  · rw [List.getElem?_append_left (by simpa using hi), List.getElem?_replicate, if_pos hi] at h
    cases h
  · have hn : n ≤ i := by omega
    rw [List.getElem?_append_right (by simpa using hn), List.length_replicate, List.getElem?_map, List.getElem?_map] at h
    cases e1 : fv[i - n]? with
    | none => rw [e1] at h; cases h
    | some p =>
      rw [e1] at h
      have h' : (ρ[p.1]?).join = some d := Option.some.inj h
      have h2 : ρ[p.1]? = some (some d) := by
        cases e2 : ρ[p.1]? with
        | none => rw [e2] at h'; cases h'
        | some o => rw [e2] at h'; rw [show o = some d from h']
      obtain ⟨v, e3, r⟩ := e p.1 d h2
      refine ⟨v, ?_, r⟩
      unfold HB
      rw [List.getElem?_append_right (by simpa using hn), List.length_replicate, List.getElem?_map, e1]
      show some (σ[p.1]?).join = _
      rw [e3]
      rfl
section
variable {K : Frag} {wi : TI} {g : TG} {tc : TT} {te : TE} {fi : BW} {bd : D → Bf → Option Bf} {pt : PB} {fe : PF}
theorem qR (hi : Yc K wi fi) (hg : iU K g bd) (ht : Oo K tc pt) (he : G8 K te fe) (n : Nat) (fv : List (Nat × Str)) : Le K (NP wi g tc te n fv) (CT fi bd pt fe n (fv.map (·.1))) := by
  intro O σ H ρ total Q ok er hf q
  obtain ⟨items, e1, hf⟩ := Ar hf
  by_cases hc : fits items.length = true
  case neg => rw [if_neg hc] at hf; cases hf
  rw [if_pos hc] at hf
  refine hi O σ H ρ items _ ok er e1 fun J H1 s1 it => fun D0 hD0 => ?_
  have hlt : items.length < sizeLine := of_decide_eq_true hc
  have okD : ∀ {H'}, H' D0 ≠ none → Ao H1 H' → Cd (D0 :: O) H' := fun {H'} hn s' a ha => by
    rcases List.mem_cons.mp ha with rfl | ha
    · cases e : H' a with
      | none => exact absurd e hn
      | some o => exact ⟨o, rfl⟩
    · exact ((ok.mono s1).mono s') a ha
  have sD : ∀ {H'}, Ao H1 H' → Ao (Ah O H1) (Ah (D0 :: O) H') := fun {H'} s' b o e => by
    obtain ⟨n1, e⟩ := Iw e
    have nb : b ≠ D0 := Ey e hD0
    rw [Cm (by simp [nb, n1])]
    exact s' b o e
  have er1 : Dm K (Ah O H1) σ ρ := er.Ah s1
  have jL : (HB n fv σ).length = (compEnv n (fv.map (·.1)) ρ).length := by simp [HB, compEnv]
  refine xK (n := items.length) (fun i ys H' => H' D0 = some (.lst ys) ∧ Ao H1 H' ∧ ys.length ≤ i ∧ ∃ es rest, BP K (Ah (D0 :: O) H') ys es ∧ Jq bd pt fe (compEnv n (fv.map (·.1)) ρ) (items.drop i) = some rest ∧ es ++ rest = total)
    ⟨Dz, Ao.new hD0, Nat.zero_le _, [], total, .nil, by simpa using hf, rfl⟩ (fun i ys H' p => p.1) (fun i ys H' hi' p => ((it (D0 :: O) H' (okD (by rw [p.1]; simp) p.2.1) (sD p.2.1)).1 i hi')) ?_ ?_
  · rintro i ys H' x H'' hi' ⟨hD', s', hy, es, rest, rr, hcp, htot⟩ yl
    obtain ⟨d, ed, s'', rd⟩ := (it (D0 :: O) H' (okD (by rw [hD']; simp) s') (sD s')).2.1 i x H'' hi' yl
    have hdrop : items.drop i = d :: items.drop (i + 1) := by
      rw [List.drop_eq_getElem_cons hi']
      congr 1
      exact Option.some.inj ((List.getElem?_eq_getElem hi').symm.trans ed)
    rw [hdrop] at hcp
    obtain ⟨ρ1, eb, hcp⟩ := Ar hcp
    obtain ⟨b, et, hcp⟩ := Ar hcp
    have s2 := s'.trans s''
    have W6 := s'' _ _ hD'
    have ok2 : Cd (D0 :: O) H'' := okD (by rw [W6]; simp) s2
    refine hg (D0 :: O) x d _ H'' _ ρ1 _ ok2 rd ((rC er1).mono (sD s2)) jL eb fun σ2 hl2 er2 => ?_
    refine ht (D0 :: O) σ2 H'' ρ1 b _ ok2 er2 et fun H3 s3 => ?_
    have s03 := s2.trans s3
    have hD3 := s3 _ _ W6
    cases b with
    | false =>
      rw [if_neg Bool.false_ne_true] at hcp ⊢
      exact ⟨hD3, s03, by omega, es, rest, rr.Ah (s''.trans s3), hcp, htot⟩
    | true =>
      rw [if_pos rfl] at hcp ⊢
      obtain ⟨e, ee, hcp⟩ := Ar hcp
      obtain ⟨r, er', hcp⟩ := Ar hcp
      cases hcp
      refine he (D0 :: O) σ2 H3 ρ1 e _ (ok2.mono s3) (er2.Ah s3) ee fun v H4 s4 rv => ?_
      have hD4 := s4 _ _ hD3
      have s04 := s03.trans s4
      refine ⟨hD4, by omega, Dz, ?_, by rw [List.length_append]; show ys.length + 1 ≤ i + 1; omega, es ++ [e], r, ?_, er', by rw [List.append_assoc]; exact htot⟩
      · intro b' o' eb'
        rw [Bs (Ey eb' hD0)]
        exact s04 b' o' eb'
      · rw [M8 (CW)]
        exact (rr.Ah ((s''.trans s3).trans s4)).append (.cons rv .nil)
  · rintro ys H' ⟨hD', s', hy, es, rest, rr, hcp, htot⟩
    refine ⟨(it (D0 :: O) H' (okD (by rw [hD']; simp) s') (sD s')).2.2, ?_⟩
    rw [List.drop_length] at hcp
    cases hcp
    rw [List.append_nil] at htot
    subst htot
    exact q D0 ys H' (s1.trans s') (s1.free hD0) hD' rr
end
section
variable {X : Cx} {K : Frag} {tg elt iter : Expr} {ifs : List Expr} {scope : Scope} {wi : TI} {g : TG} {tc : TT} {te : TE} {fi : BW} {bd : D → Bf → Option Bf} {pt : PB} {fe : PF}
structure Tw (X : Cx) (K : Frag) (ifs : List Expr) (t : TT) (f : PB) : Prop where
  pe : Qg X ifs t
  pu : Oo K t f
theorem KR : Tw X K [] p8 Cu := ⟨ADp, by
  intro O σ H ρ b Q ok er h q
  cases h
  exact q H (Ao.refl H)⟩
theorem T6 {c : Expr} {t : TT} {f : PB} (h : JT X K c t f) : Tw X K [c] t f := ⟨AGT h.pe, h.pu⟩
theorem Kr {pos : Pos} (own : List Str) (fv : List (Nat × Str)) (hc : X.calm = true) (hi : JI X K tg iter wi fi) (fo : Jv X scope fv) (gk : M7 own.length g) (bg : ∀ fp pins s H, JG (Di X (own ++ fv.map (·.2)) scope (Ep X.env scope.names []) fp pins s H) K tg g bd) (bt : ∀ fp pins s H, Tw (Di X (own ++ fv.map (·.2)) scope (Ep X.env scope.names []) fp pins s H) K ifs tc pt) (be : ∀ fp pins s H, JE (Di X (own ++ fv.map (·.2)) scope (Ep X.env scope.names []) fp pins s H) K elt te fe) (kind : scope.kind = .function) (cell : ∀ y ∈ scope.names, y.2 ≠ .cell) (names : ∀ x ∈ scope.names, x.2 = .local → scope.names.lookup x.1 = some .local) (free : freeOk X scope = true) (hs : ∀ x, foldedSetIterable iter X.env x = pure x := by intro _; rfl) :
    JL X K (.ListComp elt [⟨tg, iter, ifs, 0⟩] scope pos) (NP wi g tc te own.length fv) (CT fi bd pt fe own.length (fv.map (·.1))) :=
  ⟨ABp own fv hc hi.pe fo gk (fun fp pins s H => (bg fp pins s H).pe) (fun fp pins s H => (bt fp pins s H).pe) (fun fp pins s H => (be fp pins s H).pe) kind cell names free hs,
   qR hi.pu (bg [] [] X.s₀ X.H₀).pu (bt [] [] X.s₀ X.H₀).pu (be [] [] X.s₀ X.H₀).pu _ _⟩
end
end L2
namespace L2
open PySem PySem.Spec PyProof.Rows
inductive Cn where
  | obj (ks : List Str) (ds : List D)
  | lst (ds : List D)
  | dct (kvs : List (Int × D))
def Cn.view : Cn → Option D
  | .obj ks ds => some (.dict (Dq ks ds))
  | .lst ds => some (.list ds)
  | .dct _ => none
inductive Sl where
  | no
  | sh (d : D)
  | ow (ds : List D)
  | on (dss : List (List D))
  | tr (a : Addr) (c : Cn)
abbrev Aq := List Sl
def Sl.view : Sl → Option D
  | .no => none
  | .sh d => some d
  | .ow ds => some (.list ds)
  | .on dss => some (.list (dss.map .list))
  | .tr _ c => c.view
def Sl.mask : Sl → Option D
  | .sh d => some d
  | _ => none
def full (ρ : Aq) : Bf := ρ.map Sl.view
def masked (ρ : Aq) : Bf := ρ.map Sl.mask
theorem yK {H : Hp} {a : Addr} {ps qs : List Addr} (e : H a = some (.lst (ps.map V.ref))) (e' : H a = some (.lst (qs.map V.ref))) : ps = qs := by
  rw [e] at e'
  have : ps.map V.ref = qs.map V.ref := by injection e' with e'; injection e'
  exact (List.map_inj_right fun x y z => by injection z).mp this
inductive Inner (K : Frag) (G H : Hp) : List Addr → List (List D) → Prop
  | nil : Inner K G H [] []
  | cons {p : Addr} {xs : List V} {ds : List D} {ps : List Addr} {dss : List (List D)} : H p = some (.lst xs) → BP K G xs ds → Inner K G H ps dss → Inner K G H (p :: ps) (ds :: dss)
section
variable {K : Frag} {G G' H H' : Hp}
theorem Inner.len {ps : List Addr} {dss : List (List D)} (i : Inner K G H ps dss) : ps.length = dss.length := by
  induction i with
  | nil => rfl
  | cons _ _ _ ih => simp [ih]
theorem Inner.mem {ps : List Addr} {dss : List (List D)} (i : Inner K G H ps dss) : ∀ a ∈ ps, ∃ xs, H a = some (.lst xs) := by
  induction i with
  | nil => intro a h; cases h
  | cons e _ _ ih =>
    intro b h
    rcases List.mem_cons.mp h with rfl | h
    · exact ⟨_, e⟩
    · exact ih b h
theorem Inner.mono {ps : List Addr} {dss : List (List D)} (i : Inner K G H ps dss) (g : Ao G G') (h : ∀ a ∈ ps, ∀ o, H a = some o → H' a = some o) : Inner K G' H' ps dss := by
  induction i with
  | nil => exact .nil
  | cons e r _ ih => exact .cons (h _ CW _ e) (r.mono g) (ih fun a ha => h a (BZ ha))
theorem Inner.full {ps : List Addr} {dss : List (List D)} (i : Inner K G H ps dss) (g : Ao G G') (h : ∀ a ∈ ps, ∀ o, H a = some o → G' a = some o) : BP K G' (ps.map V.ref) (dss.map .list) := by
  induction i with
  | nil => exact .nil
  | cons e r _ ih => exact .cons (.lst (Bl.of (h _ CW _ e)) (r.mono g)) (ih fun a ha => h a (BZ ha))
theorem Inner.get : ∀ {ps : List Addr} {dss : List (List D)} {j : Nat} {ds : List D}, Inner K G H ps dss → dss[j]? = some ds → ∃ p xs, ps[j]? = some p ∧ H p = some (.lst xs) ∧ BP K G xs ds
  | _, _, _, _, .nil, h => by simp at h
  | _, _, 0, _, .cons e r _, h => by simp at h; subst h; exact ⟨_, _, rfl, e, r⟩
  | _, _, j + 1, _, .cons _ _ t, h => by
    obtain ⟨p, xs, h1, h2, h3⟩ := Inner.get (j := j) t (by simpa using h)
    exact ⟨p, xs, by simpa using h1, h2, h3⟩
theorem Inner.write {p : Addr} {ys : List V} {es : List D} (r : BP K G ys es) : ∀ {ps : List Addr} {dss : List (List D)} {j : Nat}, ps.Nodup → Inner K G H ps dss → ps[j]? = some p → Inner K G (upd H p (.lst ys)) ps (dss.set j es)
  | _, _, _, _, .nil, h => by simp at h
  | _, _, 0, nd, .cons e _ t, h => by
    simp at h
    subst h
    have nd' := List.nodup_cons.mp nd
    exact .cons Dz r (t.mono (Ao.refl _) fun b hb o e => by rw [Bs fun z => nd'.1 (by rw [← z]; exact hb)]; exact e)
  | _, _, j + 1, nd, .cons e q t, h => by
    have nd' := List.nodup_cons.mp nd
    rw [List.getElem?_cons_succ] at h
    have h' := h
    have hm := List.mem_of_getElem? h'
    exact .cons (by rw [Bs fun z => nd'.1 (by rw [z]; exact hm)]; exact e) q (Inner.write (j := j) r nd'.2 t h')
end
def Vg : HO → Bool
  | .lst _ => true
  | .ins _ _ _ => true
  | .dK _ => true
  | _ => false
def HQ (K : Frag) (G H : Hp) (a : Addr) : Cn → Prop
  | .obj ks ds => ∃ C dx fs, Pg K C ∧ H a = some (.ins C dx fs) ∧ fs.map (·.1) = ks ∧ BP K G (fs.map (·.2)) ds
  | .lst ds => ∃ xs, H a = some (.lst xs) ∧ BP K G xs ds
  | .dct kvs => ∃ ps : List (Int × V), H a = some (.dK (ps.map fun p => (Sum.inl p.1, p.2))) ∧ ps.map (·.1) = kvs.map (·.1) ∧ BP K G (ps.map (·.2)) (kvs.map (·.2))
theorem HQ.own {K : Frag} {G H : Hp} {a : Addr} {c : Cn} (h : HQ K G H a c) : ∃ o, H a = some o ∧ Vg o = true := by
  cases c with
  | obj ks ds => obtain ⟨C, dx, fs, _, e, _⟩ := h; exact ⟨_, e, rfl⟩
  | lst ds => obtain ⟨xs, e, _⟩ := h; exact ⟨_, e, rfl⟩
  | dct kvs => obtain ⟨ps, e, _⟩ := h; exact ⟨_, e, rfl⟩
theorem HQ.mono {K : Frag} {G G' H H' : Hp} {a : Addr} {c : Cn} (h : HQ K G H a c) (g : Ao G G') (e : ∀ o, H a = some o → H' a = some o) : HQ K G' H' a c := by
  cases c with
  | obj ks ds => obtain ⟨C, dx, fs, k, q, z, r⟩ := h; exact ⟨C, dx, fs, k, e _ q, z, r.mono g⟩
  | lst ds => obtain ⟨xs, q, r⟩ := h; exact ⟨xs, e _ q, r.mono g⟩
  | dct kvs => obtain ⟨ps, q, z, r⟩ := h; exact ⟨ps, e _ q, z, r.mono g⟩
theorem HQ.rep {K : Frag} {G G' H : Hp} {a : Addr} {c : Cn} {d : D} (h : HQ K G H a c) (g : Ao G G') (e : ∀ o, H a = some o → G' a = some o) (v : c.view = some d) : Rep K G' (.ref a) d := by
  cases c with
  | obj ks ds => obtain ⟨C, dx, fs, k, q, rfl, r⟩ := h; cases v; exact .obj k (e _ q) (r.mono g) rfl
  | lst ds => obtain ⟨xs, q, r⟩ := h; cases v; exact .lst (Bl.of (e _ q)) (r.mono g)
  | dct kvs => cases v
inductive Slots (K : Frag) (G H : Hp) : St → Aq → List Addr → Prop
  | nil : Slots K G H [] [] []
  | no {v : Option V} {σ : St} {ρ : Aq} {O : List Addr} : Slots K G H σ ρ O → Slots K G H (v :: σ) (.no :: ρ) O
  | sh {v : V} {d : D} {σ : St} {ρ : Aq} {O : List Addr} : Rep K G v d → Slots K G H σ ρ O → Slots K G H (some v :: σ) (.sh d :: ρ) O
  | ow {a : Addr} {xs : List V} {ds : List D} {σ : St} {ρ : Aq} {O : List Addr} : H a = some (.lst xs) → BP K G xs ds → Slots K G H σ ρ O → Slots K G H (some (.ref a) :: σ) (.ow ds :: ρ) (a :: O)
  | on {a : Addr} {ps : List Addr} {dss : List (List D)} {σ : St} {ρ : Aq} {O : List Addr} : H a = some (.lst (ps.map V.ref)) → Inner K G H ps dss → Slots K G H σ ρ O → Slots K G H (some (.ref a) :: σ) (.on dss :: ρ) (a :: (ps ++ O))
  | tr {a : Addr} {c : Cn} {σ : St} {ρ : Aq} {O : List Addr} : HQ K G H a c → Slots K G H σ ρ O → Slots K G H (some (.ref a) :: σ) (.tr a c :: ρ) (a :: O)
section
variable {K : Frag} {G G' H H' : Hp} {σ : St} {ρ : Aq} {O : List Addr}
theorem Slots.len (s : Slots K G H σ ρ O) : σ.length = ρ.length := by
  induction s with
  | nil => rfl
  | no _ ih => simp [ih]
  | sh _ _ ih => simp [ih]
  | ow _ _ _ ih => simp [ih]
  | on _ _ _ ih => simp [ih]
  | tr _ _ ih => simp [ih]
theorem Slots.mem (s : Slots K G H σ ρ O) : ∀ a ∈ O, ∃ o, H a = some o ∧ Vg o = true := by
  induction s with
  | nil => intro a h; cases h
  | no _ ih => exact ih
  | sh _ _ ih => exact ih
  | ow e _ _ ih =>
    intro b h
    rcases List.mem_cons.mp h with rfl | h
    · exact ⟨_, e, rfl⟩
    · exact ih b h
  | tr e _ ih =>
    intro b h
    rcases List.mem_cons.mp h with rfl | h
    · exact e.own
    · exact ih b h
  | on e i _ ih =>
    intro b h
    rcases List.mem_cons.mp h with rfl | h
    · exact ⟨_, e, rfl⟩
    · rcases List.mem_append.mp h with h | h
      · obtain ⟨xs, e⟩ := i.mem b h
        exact ⟨_, e, rfl⟩
      · exact ih b h
theorem Slots.mono (s : Slots K G H σ ρ O) (g : Ao G G') (h : ∀ a ∈ O, ∀ o, H a = some o → H' a = some o) : Slots K G' H' σ ρ O := by
  induction s with
  | nil => exact .nil
  | no _ ih => exact .no (ih h)
  | sh r _ ih => exact .sh (r.mono g) (ih h)
  | ow e r _ ih => exact .ow (h _ CW _ e) (r.mono g) (ih fun a ha => h a (BZ ha))
  | tr e _ ih => exact .tr (e.mono g (h _ CW)) (ih fun a ha => h a (BZ ha))
  | on e i _ ih => exact .on (h _ CW _ e) (i.mono g fun a ha => h a (BZ (Dn ha))) (ih fun a ha => h a (BZ (By ha)))
theorem Slots.mask (s : Slots K G H σ ρ O) : Dm K G σ (masked ρ) := by
  induction s with
  | nil => intro i d h; cases h
  | no _ ih =>
    intro i d h
    cases i with
    | zero => cases h
    | succ i => exact ih i d h
  | sh r _ ih =>
    intro i d h
    cases i with
    | zero => cases h; exact ⟨_, rfl, r⟩
    | succ i => exact ih i d h
  | ow _ _ _ ih =>
    intro i d h
    cases i with
    | zero => cases h
    | succ i => exact ih i d h
  | on _ _ _ ih =>
    intro i d h
    cases i with
    | zero => cases h
    | succ i => exact ih i d h
  | tr _ _ ih =>
    intro i d h
    cases i with
    | zero => cases h
    | succ i => exact ih i d h
theorem Slots.full {G' : Hp} (s : Slots K G H σ ρ O) (g : Ao G G') (h : ∀ a ∈ O, ∀ o, H a = some o → G' a = some o) : Dm K G' σ (full ρ) := by
  induction s with
  | nil => intro i d h; cases h
  | no _ ih =>
    intro i d h'
    cases i with
    | zero => cases h'
    | succ i => exact ih h i d h'
  | sh r _ ih =>
    intro i d h'
    cases i with
    | zero => cases h'; exact ⟨_, rfl, r.mono g⟩
    | succ i => exact ih h i d h'
  | ow e r _ ih =>
    intro i d h'
    cases i with
    | zero => cases h'; exact ⟨_, rfl, .lst (Bl.of (h _ CW _ e)) (r.mono g)⟩
    | succ i => exact ih (fun a ha => h a (BZ ha)) i d h'
  | tr e _ ih =>
    intro i d h'
    cases i with
    | zero => exact ⟨_, rfl, e.rep g (h _ CW) (Option.some.inj h')⟩
    | succ i => exact ih (fun a ha => h a (BZ ha)) i d h'
  | on e inn _ ih =>
    intro i d h'
    cases i with
    | zero => cases h'; exact ⟨_, rfl, .lst (Bl.of (h _ CW _ e)) (inn.full g fun a ha => h a (BZ (Dn ha)))⟩
    | succ i => exact ih (fun a ha => h a (BZ (By ha))) i d h'
theorem Slots.N8 {v : V} {d : D} (r : Rep K G v d) : ∀ {σ : St} {ρ : Aq} {O : List Addr} (i : Nat), Slots K G H σ ρ O → ∃ O', O'.Sublist O ∧ Slots K G H (σ.set i (some v)) (ρ.set i (.sh d)) O'
  | _, _, _, _, .nil => ⟨_, .refl _, .nil⟩
  | _, _, _, 0, .no t => ⟨_, .refl _, .sh r t⟩
  | _, _, _, 0, .sh _ t => ⟨_, .refl _, .sh r t⟩
  | _, _, _, 0, .ow _ _ t => ⟨_, .cons _ (.refl _), .sh r t⟩
  | _, _, _, 0, .on _ _ t => ⟨_, .cons _ (List.sublist_append_right _ _), .sh r t⟩
  | _, _, _, 0, .tr _ t => ⟨_, .cons _ (.refl _), .sh r t⟩
  | _, _, _, i + 1, .no t => by obtain ⟨O', h, s⟩ := Slots.N8 r i t; exact ⟨O', h, .no s⟩
  | _, _, _, i + 1, .sh q t => by obtain ⟨O', h, s⟩ := Slots.N8 r i t; exact ⟨O', h, .sh q s⟩
  | _, _, _, i + 1, .ow e q t => by obtain ⟨O', h, s⟩ := Slots.N8 r i t; exact ⟨_, .cons₂ _ h, .ow e q s⟩
  | _, _, _, i + 1, .on e q t => by obtain ⟨O', h, s⟩ := Slots.N8 r i t; exact ⟨_, .cons₂ _ (List.Sublist.append_left h _), .on e q s⟩
  | _, _, _, i + 1, .tr e t => by obtain ⟨O', h, s⟩ := Slots.N8 r i t; exact ⟨_, .cons₂ _ h, .tr e s⟩
theorem Slots.QV {a : Addr} {xs : List V} {ds : List D} (e : H a = some (.lst xs)) (r : BP K G xs ds) : ∀ {σ : St} {ρ : Aq} {O : List Addr} (i : Nat), a ∉ O → O.Nodup → Slots K G H σ ρ O →
    ∃ O', (∀ b ∈ O', b = a ∨ b ∈ O) ∧ O'.Nodup ∧ Slots K G H (σ.set i (some (.ref a))) (ρ.set i (.ow ds)) O'
  | _, _, _, _, _, nd, .nil => ⟨[], (fun b h => by cases h), nd, .nil⟩
  | _, _, _, 0, na, nd, .no t => ⟨_, fun b h => List.mem_cons.mp h, List.nodup_cons.mpr ⟨na, nd⟩, .ow e r t⟩
  | _, _, _, 0, na, nd, .sh _ t => ⟨_, fun b h => List.mem_cons.mp h, List.nodup_cons.mpr ⟨na, nd⟩, .ow e r t⟩
  | _, _, _, 0, na, nd, .ow _ _ t => ⟨_, fun b h => (List.mem_cons.mp h).imp id (fun z => BZ z), List.nodup_cons.mpr ⟨fun z => na (BZ z), (List.nodup_cons.mp nd).2⟩, .ow e r t⟩
  | _, _, _, 0, na, nd, .on _ _ t => ⟨_, fun b h => (List.mem_cons.mp h).imp id (fun z => BZ (By z)), List.nodup_cons.mpr ⟨fun z => na (BZ (By z)), (List.nodup_append.mp (List.nodup_cons.mp nd).2).2.1⟩, .ow e r t⟩
  | _, _, _, 0, na, nd, .tr _ t => ⟨_, fun b h => (List.mem_cons.mp h).imp id (fun z => BZ z), List.nodup_cons.mpr ⟨fun z => na (BZ z), (List.nodup_cons.mp nd).2⟩, .ow e r t⟩
  | _, _, _, i + 1, na, nd, .tr q t => by
    have nd' := List.nodup_cons.mp nd
    obtain ⟨O', h, n, s⟩ := Slots.QV e r i (fun z => na (BZ z)) nd'.2 t
    refine ⟨_, fun b hb => ?_, List.nodup_cons.mpr ⟨fun z => ?_, n⟩, .tr q s⟩
    · rcases List.mem_cons.mp hb with rfl | hb
      · exact .inr CW
      · exact (h b hb).imp id (fun z => BZ z)
    · rcases h _ z with z | z
      · exact na (by rw [← z]; exact CW)
      · exact nd'.1 z
  | _, _, _, i + 1, na, nd, .no t => by obtain ⟨O', h, n, s⟩ := Slots.QV e r i na nd t; exact ⟨O', h, n, .no s⟩
  | _, _, _, i + 1, na, nd, .sh q t => by obtain ⟨O', h, n, s⟩ := Slots.QV e r i na nd t; exact ⟨O', h, n, .sh q s⟩
  | _, _, _, i + 1, na, nd, .ow e' q t => by
    have nd' := List.nodup_cons.mp nd
    obtain ⟨O', h, n, s⟩ := Slots.QV e r i (fun z => na (BZ z)) nd'.2 t
    refine ⟨_, fun b hb => ?_, List.nodup_cons.mpr ⟨fun z => ?_, n⟩, .ow e' q s⟩
    · rcases List.mem_cons.mp hb with rfl | hb
      · exact .inr CW
      · exact (h b hb).imp id (fun z => BZ z)
    · rcases h _ z with z | z
      · exact na (by rw [← z]; exact CW)
      · exact nd'.1 z
  | _, _, _, i + 1, na, nd, .on e' q t => by
    have nd' := List.nodup_cons.mp nd
    have nd2 := List.nodup_append.mp nd'.2
    obtain ⟨O', h, n, s⟩ := Slots.QV e r i (fun z => na (BZ (By z))) nd2.2.1 t
    refine ⟨_, fun b hb => ?_, List.nodup_cons.mpr ⟨fun z => ?_, List.nodup_append.mpr ⟨nd2.1, n, fun x hx y hy hxy => ?_⟩⟩, .on e' q s⟩
    · rcases List.mem_cons.mp hb with rfl | hb
      · exact .inr CW
      · rcases List.mem_append.mp hb with hb | hb
        · exact .inr (BZ (Dn hb))
        · exact (h b hb).imp id (fun z => BZ (By z))
    · rcases List.mem_append.mp z with z | z
      · exact nd'.1 (Dn z)
      · rcases h _ z with z | z
        · exact na (by rw [← z]; exact CW)
        · exact nd'.1 (By z)
    · rcases h y hy with z | z
      · exact na (by rw [← z, ← hxy]; exact BZ (Dn hx))
      · exact nd2.2.2 x hx y z hxy
theorem Slots.Qd {a : Addr} {ps : List Addr} {dss : List (List D)} (e : H a = some (.lst (ps.map V.ref))) (r : Inner K G H ps dss) (hap : (a :: ps).Nodup) : ∀ {σ : St} {ρ : Aq} {O : List Addr} (i : Nat), (∀ b ∈ a :: ps, b ∉ O) → O.Nodup → Slots K G H σ ρ O →
    ∃ O', (∀ b ∈ O', b ∈ a :: ps ∨ b ∈ O) ∧ O'.Nodup ∧ Slots K G H (σ.set i (some (.ref a))) (ρ.set i (.on dss)) O'
  | _, _, _, _, _, nd, .nil => ⟨[], (fun b h => by cases h), nd, .nil⟩
  | _, _, O, 0, na, nd, .no t => ⟨_, fun b h => List.mem_append.mp (show b ∈ (a :: ps) ++ O from h), (List.nodup_append.mpr ⟨hap, nd, fun x hx y hy z => na x hx (by rw [z]; exact hy)⟩ : ((a :: ps) ++ O).Nodup), .on e r t⟩
  | _, _, O, 0, na, nd, .sh _ t => ⟨_, fun b h => List.mem_append.mp (show b ∈ (a :: ps) ++ O from h), (List.nodup_append.mpr ⟨hap, nd, fun x hx y hy z => na x hx (by rw [z]; exact hy)⟩ : ((a :: ps) ++ O).Nodup), .on e r t⟩
  | _, _, _, 0, na, nd, .ow _ _ t => ⟨_, fun b h => (List.mem_append.mp (show b ∈ (a :: ps) ++ _ from h)).imp id (fun z => BZ z), (List.nodup_append.mpr ⟨hap, (List.nodup_cons.mp nd).2, fun x hx y hy z => na x hx (by rw [z]; exact BZ hy)⟩ : ((a :: ps) ++ _).Nodup), .on e r t⟩
  | _, _, _, 0, na, nd, .on _ _ t => ⟨_, fun b h => (List.mem_append.mp (show b ∈ (a :: ps) ++ _ from h)).imp id (fun z => BZ (By z)), (List.nodup_append.mpr ⟨hap, (List.nodup_append.mp (List.nodup_cons.mp nd).2).2.1, fun x hx y hy z => na x hx (by rw [z]; exact BZ (By hy))⟩ : ((a :: ps) ++ _).Nodup), .on e r t⟩
  | _, _, _, 0, na, nd, .tr _ t => ⟨_, fun b h => (List.mem_append.mp (show b ∈ (a :: ps) ++ _ from h)).imp id (fun z => BZ z), (List.nodup_append.mpr ⟨hap, (List.nodup_cons.mp nd).2, fun x hx y hy z => na x hx (by rw [z]; exact BZ hy)⟩ : ((a :: ps) ++ _).Nodup), .on e r t⟩
  | _, _, _, i + 1, na, nd, .tr q t => by
    have nd' := List.nodup_cons.mp nd
    obtain ⟨O', h, n, s⟩ := Slots.Qd e r hap i (fun b hb z => na b hb (BZ z)) nd'.2 t
    refine ⟨_, fun b hb => ?_, List.nodup_cons.mpr ⟨fun z => ?_, n⟩, .tr q s⟩
    · rcases List.mem_cons.mp hb with rfl | hb
      · exact .inr CW
      · exact (h b hb).imp id (fun z => BZ z)
    · rcases h _ z with z | z
      · exact na _ z CW
      · exact nd'.1 z
  | _, _, _, i + 1, na, nd, .no t => by obtain ⟨O', h, n, s⟩ := Slots.Qd e r hap i na nd t; exact ⟨O', h, n, .no s⟩
  | _, _, _, i + 1, na, nd, .sh q t => by obtain ⟨O', h, n, s⟩ := Slots.Qd e r hap i na nd t; exact ⟨O', h, n, .sh q s⟩
  | _, _, _, i + 1, na, nd, .ow e' q t => by
    have nd' := List.nodup_cons.mp nd
    obtain ⟨O', h, n, s⟩ := Slots.Qd e r hap i (fun b hb z => na b hb (BZ z)) nd'.2 t
    refine ⟨_, fun b hb => ?_, List.nodup_cons.mpr ⟨fun z => ?_, n⟩, .ow e' q s⟩
    · rcases List.mem_cons.mp hb with rfl | hb
      · exact .inr CW
      · exact (h b hb).imp id (fun z => BZ z)
    · rcases h _ z with z | z
      · exact na _ z CW
      · exact nd'.1 z
  | _, _, _, i + 1, na, nd, .on e' q t => by
    have nd' := List.nodup_cons.mp nd
    have nd2 := List.nodup_append.mp nd'.2
    obtain ⟨O', h, n, s⟩ := Slots.Qd e r hap i (fun b hb z => na b hb (BZ (By z))) nd2.2.1 t
    refine ⟨_, fun b hb => ?_, List.nodup_cons.mpr ⟨fun z => ?_, List.nodup_append.mpr ⟨nd2.1, n, fun x hx y hy hxy => ?_⟩⟩, .on e' q s⟩
    · rcases List.mem_cons.mp hb with rfl | hb
      · exact .inr CW
      · rcases List.mem_append.mp hb with hb | hb
        · exact .inr (BZ (Dn hb))
        · exact (h b hb).imp id (fun z => BZ (By z))
    · rcases List.mem_append.mp z with z | z
      · exact nd'.1 (Dn z)
      · rcases h _ z with z | z
        · exact na _ z CW
        · exact nd'.1 (By z)
    · rcases h y hy with z | z
      · exact na y z (by rw [← hxy]; exact BZ (Dn hx))
      · exact nd2.2.2 x hx y z hxy
theorem Slots.Q3 {a : Addr} {c : Cn} (e : HQ K G H a c) : ∀ {σ : St} {ρ : Aq} {O : List Addr} (i : Nat), a ∉ O → O.Nodup → Slots K G H σ ρ O →
    ∃ O', (∀ b ∈ O', b = a ∨ b ∈ O) ∧ O'.Nodup ∧ Slots K G H (σ.set i (some (.ref a))) (ρ.set i (.tr a c)) O'
  | _, _, _, _, _, nd, .nil => ⟨[], (fun b h => by cases h), nd, .nil⟩
  | _, _, _, 0, na, nd, .no t => ⟨_, fun b h => List.mem_cons.mp h, List.nodup_cons.mpr ⟨na, nd⟩, .tr e t⟩
  | _, _, _, 0, na, nd, .sh _ t => ⟨_, fun b h => List.mem_cons.mp h, List.nodup_cons.mpr ⟨na, nd⟩, .tr e t⟩
  | _, _, _, 0, na, nd, .ow _ _ t => ⟨_, fun b h => (List.mem_cons.mp h).imp id (fun z => BZ z), List.nodup_cons.mpr ⟨fun z => na (BZ z), (List.nodup_cons.mp nd).2⟩, .tr e t⟩
  | _, _, _, 0, na, nd, .tr _ t => ⟨_, fun b h => (List.mem_cons.mp h).imp id (fun z => BZ z), List.nodup_cons.mpr ⟨fun z => na (BZ z), (List.nodup_cons.mp nd).2⟩, .tr e t⟩
  | _, _, _, 0, na, nd, .on _ _ t => ⟨_, fun b h => (List.mem_cons.mp h).imp id (fun z => BZ (By z)), List.nodup_cons.mpr ⟨fun z => na (BZ (By z)), (List.nodup_append.mp (List.nodup_cons.mp nd).2).2.1⟩, .tr e t⟩
  | _, _, _, i + 1, na, nd, .no t => by obtain ⟨O', h, n, s⟩ := Slots.Q3 e i na nd t; exact ⟨O', h, n, .no s⟩
  | _, _, _, i + 1, na, nd, .sh q t => by obtain ⟨O', h, n, s⟩ := Slots.Q3 e i na nd t; exact ⟨O', h, n, .sh q s⟩
  | _, _, _, i + 1, na, nd, .ow e' q t => by
    have nd' := List.nodup_cons.mp nd
    obtain ⟨O', h, n, s⟩ := Slots.Q3 e i (fun z => na (BZ z)) nd'.2 t
    refine ⟨_, fun b hb => ?_, List.nodup_cons.mpr ⟨fun z => ?_, n⟩, .ow e' q s⟩
    · rcases List.mem_cons.mp hb with rfl | hb
      · exact .inr CW
      · exact (h b hb).imp id (fun z => BZ z)
    · rcases h _ z with z | z
      · exact na (by rw [← z]; exact CW)
      · exact nd'.1 z
  | _, _, _, i + 1, na, nd, .tr q t => by
    have nd' := List.nodup_cons.mp nd
    obtain ⟨O', h, n, s⟩ := Slots.Q3 e i (fun z => na (BZ z)) nd'.2 t
    refine ⟨_, fun b hb => ?_, List.nodup_cons.mpr ⟨fun z => ?_, n⟩, .tr q s⟩
    · rcases List.mem_cons.mp hb with rfl | hb
      · exact .inr CW
      · exact (h b hb).imp id (fun z => BZ z)
    · rcases h _ z with z | z
      · exact na (by rw [← z]; exact CW)
      · exact nd'.1 z
  | _, _, _, i + 1, na, nd, .on e' q t => by
    have nd' := List.nodup_cons.mp nd
    have nd2 := List.nodup_append.mp nd'.2
    obtain ⟨O', h, n, s⟩ := Slots.Q3 e i (fun z => na (BZ (By z))) nd2.2.1 t
    refine ⟨_, fun b hb => ?_, List.nodup_cons.mpr ⟨fun z => ?_, List.nodup_append.mpr ⟨nd2.1, n, fun x hx y hy hxy => ?_⟩⟩, .on e' q s⟩
    · rcases List.mem_cons.mp hb with rfl | hb
      · exact .inr CW
      · rcases List.mem_append.mp hb with hb | hb
        · exact .inr (BZ (Dn hb))
        · exact (h b hb).imp id (fun z => BZ (By z))
    · rcases List.mem_append.mp z with z | z
      · exact nd'.1 (Dn z)
      · rcases h _ z with z | z
        · exact na (by rw [← z]; exact CW)
        · exact nd'.1 (By z)
    · rcases h y hy with z | z
      · exact na (by rw [← z, ← hxy]; exact BZ (Dn hx))
      · exact nd2.2.2 x hx y z hxy
theorem Slots.Hw : ∀ {σ : St} {ρ : Aq} {O : List Addr} {i : Nat} {a : Addr} {c : Cn}, Slots K G H σ ρ O → ρ[i]? = some (.tr a c) → σ[i]? = some (some (.ref a)) ∧ a ∈ O ∧ HQ K G H a c
  | _, _, _, _, _, _, .nil, h => by cases h
  | _, _, _, 0, _, _, .no t, h => by cases h
  | _, _, _, 0, _, _, .sh _ t, h => by cases h
  | _, _, _, 0, _, _, .ow _ _ t, h => by cases h
  | _, _, _, 0, _, _, .on _ _ t, h => by cases h
  | _, _, _, 0, _, _, .tr e t, h => by cases h; exact ⟨rfl, CW, e⟩
  | _, _, _, i + 1, _, _, .no t, h => Slots.Hw (i := i) t h
  | _, _, _, i + 1, _, _, .sh _ t, h => Slots.Hw (i := i) t h
  | _, _, _, i + 1, _, _, .ow _ _ t, h => by
    obtain ⟨h1, h2, h3⟩ := Slots.Hw (i := i) t h
    exact ⟨h1, BZ h2, h3⟩
  | _, _, _, i + 1, _, _, .tr _ t, h => by
    obtain ⟨h1, h2, h3⟩ := Slots.Hw (i := i) t h
    exact ⟨h1, BZ h2, h3⟩
  | _, _, _, i + 1, _, _, .on _ _ t, h => by
    obtain ⟨h1, h2, h3⟩ := Slots.Hw (i := i) t h
    exact ⟨h1, BZ (By h2), h3⟩
theorem Slots.HW : ∀ {σ : St} {ρ : Aq} {O : List Addr} {i : Nat} {ds : List D}, Slots K G H σ ρ O → ρ[i]? = some (.ow ds) → ∃ a xs, σ[i]? = some (some (.ref a)) ∧ a ∈ O ∧ H a = some (.lst xs) ∧ BP K G xs ds
  | _, _, _, _, _, .nil, h => by cases h
  | _, _, _, 0, _, .no t, h => by cases h
  | _, _, _, 0, _, .sh _ t, h => by cases h
  | _, _, _, 0, _, .ow e r t, h => by cases h; exact ⟨_, _, rfl, CW, e, r⟩
  | _, _, _, i + 1, _, .no t, h => Slots.HW (i := i) t h
  | _, _, _, i + 1, _, .sh _ t, h => Slots.HW (i := i) t h
  | _, _, _, i + 1, _, .ow _ _ t, h => by
    obtain ⟨a, xs, h1, h2, h3⟩ := Slots.HW (i := i) t h
    exact ⟨a, xs, h1, BZ h2, h3⟩
  | _, _, _, 0, _, .on _ _ t, h => by cases h
  | _, _, _, 0, _, .tr _ t, h => by cases h
  | _, _, _, i + 1, _, .tr _ t, h => by
    obtain ⟨a, xs, h1, h2, h3⟩ := Slots.HW (i := i) t h
    exact ⟨a, xs, h1, BZ h2, h3⟩
  | _, _, _, i + 1, _, .on _ _ t, h => by
    obtain ⟨a, xs, h1, h2, h3⟩ := Slots.HW (i := i) t h
    exact ⟨a, xs, h1, BZ (By h2), h3⟩
theorem Slots.Jy : ∀ {σ : St} {ρ : Aq} {O : List Addr} {i : Nat} {dss : List (List D)}, O.Nodup → Slots K G H σ ρ O → ρ[i]? = some (.on dss) → ∃ a ps, σ[i]? = some (some (.ref a)) ∧ (∀ b ∈ a :: ps, b ∈ O) ∧ (a :: ps).Nodup ∧ H a = some (.lst (ps.map V.ref)) ∧ Inner K G H ps dss
  | _, _, _, _, _, _, .nil, h => by cases h
  | _, _, _, 0, _, _, .no t, h => by cases h
  | _, _, _, 0, _, _, .sh _ t, h => by cases h
  | _, _, _, 0, _, _, .ow _ _ t, h => by cases h
  | _, _, _, 0, _, _, .tr _ t, h => by cases h
  | _, _, _, i + 1, _, nd, .tr _ t, h => by
    obtain ⟨a, xs, h1, h2, h3⟩ := Slots.Jy (i := i) (List.nodup_cons.mp nd).2 t h
    exact ⟨a, xs, h1, fun b hb => BZ (h2 b hb), h3⟩
  | _, _, _, 0, _, nd, .on e r t, h => by
    cases h
    have nd' : ((_ :: _) ++ _).Nodup := nd
    exact ⟨_, _, rfl, fun b hb => Dn hb, (List.nodup_append.mp nd').1, e, r⟩
  | _, _, _, i + 1, _, nd, .no t, h => Slots.Jy (i := i) nd t h
  | _, _, _, i + 1, _, nd, .sh _ t, h => Slots.Jy (i := i) nd t h
  | _, _, _, i + 1, _, nd, .ow _ _ t, h => by
    obtain ⟨a, xs, h1, h2, h3⟩ := Slots.Jy (i := i) (List.nodup_cons.mp nd).2 t h
    exact ⟨a, xs, h1, fun b hb => BZ (h2 b hb), h3⟩
  | _, _, _, i + 1, _, nd, .on _ _ t, h => by
    obtain ⟨a, xs, h1, h2, h3⟩ := Slots.Jy (i := i) (List.nodup_append.mp (List.nodup_cons.mp nd).2).2.1 t h
    exact ⟨a, xs, h1, fun b hb => BZ (By (h2 b hb)), h3⟩
theorem Slots.write {a : Addr} {ys : List V} {es : List D} (r : BP K G ys es) : ∀ {σ : St} {ρ : Aq} {O : List Addr} {i : Nat} {ds : List D}, O.Nodup → Slots K G H σ ρ O → ρ[i]? = some (.ow ds) → σ[i]? = some (some (.ref a)) →
    Slots K G (upd H a (.lst ys)) σ (ρ.set i (.ow es)) O
  | _, _, _, _, _, _, .nil, h, _ => by cases h
  | _, _, _, 0, _, _, .no t, h, _ => by cases h
  | _, _, _, 0, _, _, .sh _ t, h, _ => by cases h
  | _, _, _, 0, _, nd, .ow e _ t, h, h2 => by
    cases h2
    have nd' := List.nodup_cons.mp nd
    exact .ow Dz r (t.mono (Ao.refl _) fun b hb o e => by rw [Bs fun z => nd'.1 (by rw [← z]; exact hb)]; exact e)
  | _, _, _, i + 1, _, nd, .no t, h, h2 => .no (Slots.write (i := i) r nd t h h2)
  | _, _, _, i + 1, _, nd, .sh q t, h, h2 => .sh q (Slots.write (i := i) r nd t h h2)
  | _, _, _, i + 1, _, nd, .ow e q t, h, h2 => by
    have nd' := List.nodup_cons.mp nd
    obtain ⟨b, xs, h3, h4, _⟩ := Slots.HW (i := i) t h
    have h2' : _ = some (some (V.ref a)) := h2
    rw [List.getElem?_cons_succ, h3] at h2'
    cases h2'
    exact .ow (by rw [Bs fun z => nd'.1 (by rw [z]; exact h4)]; exact e) q (Slots.write (i := i) r nd'.2 t h h2)
  | _, _, _, 0, _, _, .on _ _ t, h, _ => by cases h
  | _, _, _, 0, _, _, .tr _ t, h, _ => by cases h
  | _, _, _, i + 1, _, nd, .tr q t, h, h2 => by
    have nd' := List.nodup_cons.mp nd
    obtain ⟨b, xs, h3, h4, _⟩ := Slots.HW (i := i) t h
    have h2' : _ = some (some (V.ref a)) := h2
    rw [List.getElem?_cons_succ, h3] at h2'
    cases h2'
    exact .tr (q.mono (Ao.refl _) fun o e => by rw [Bs fun z => nd'.1 (by rw [z]; exact h4)]; exact e) (Slots.write (i := i) r nd'.2 t h h2)
  | _, _, _, i + 1, _, nd, .on e q t, h, h2 => by
    have nd' := List.nodup_cons.mp nd
    have nd2 := List.nodup_append.mp nd'.2
    obtain ⟨b, xs, h3, h4, _⟩ := Slots.HW (i := i) t h
    have h2' : _ = some (some (V.ref a)) := h2
    rw [List.getElem?_cons_succ, h3] at h2'
    cases h2'
    exact .on (by rw [Bs fun z => nd'.1 (by rw [z]; exact By h4)]; exact e) (q.mono (Ao.refl _) fun b hb o e => by rw [Bs fun z => nd2.2.2 b hb a (by first | exact h4 | (rw [← z]; exact h4)) (by first | exact z | rfl)]; exact e) (Slots.write (i := i) r nd2.2.1 t h h2)
theorem Slots.Zm {p : Addr} {ps : List Addr} {a : Addr} {j : Nat} {σ : St} {ρ : Aq} {O : List Addr} {i : Nat} {dss : List (List D)} (nd : O.Nodup) (s : Slots K G H σ ρ O) (h : ρ[i]? = some (.on dss)) (h2 : σ[i]? = some (some (.ref a))) (ha : H a = some (.lst (ps.map V.ref))) (hj : ps[j]? = some p) : p ∈ O := by
  obtain ⟨a', ps', h3, h4, h5, h6, h7⟩ := s.Jy nd h
  rw [h2] at h3
  cases h3
  have ep : ps' = ps := by
    rw [h6] at ha
    have : ps'.map V.ref = ps.map V.ref := by injection ha with ha; injection ha
    exact (List.map_inj_right fun x y z => by injection z).mp this
  subst ep
  exact h4 p (BZ (List.mem_of_getElem? hj))
theorem Slots.MN {p : Addr} {ps : List Addr} {a : Addr} {j : Nat} {ys : List V} {es : List D} (r : BP K G ys es) : ∀ {σ : St} {ρ : Aq} {O : List Addr} {i : Nat} {dss : List (List D)}, O.Nodup → Slots K G H σ ρ O → ρ[i]? = some (.on dss) → σ[i]? = some (some (.ref a)) → H a = some (.lst (ps.map V.ref)) → ps[j]? = some p →
    Slots K G (upd H p (.lst ys)) σ (ρ.set i (.on (dss.set j es))) O
  | _, _, _, _, _, _, .nil, h, _, _, _ => by cases h
  | _, _, _, 0, _, _, .no t, h, _, _, _ => by cases h
  | _, _, _, 0, _, _, .sh _ t, h, _, _, _ => by cases h
  | _, _, _, 0, _, _, .ow _ _ t, h, _, _, _ => by cases h
  | _, _, _, 0, _, _, .tr _ t, h, _, _, _ => by cases h
  | _, _, _, i + 1, _, nd, .tr q t, h, h2, ha, hj => by
    have nd' := List.nodup_cons.mp nd
    have hp := Slots.Zm (i := i) nd'.2 t h h2 ha hj
    exact .tr (q.mono (Ao.refl _) fun o e => by rw [Bs fun z => nd'.1 (by rw [z]; exact hp)]; exact e) (Slots.MN (i := i) r nd'.2 t h h2 ha hj)
  | _, _, _, 0, _, nd, .on e q t, h, h2, ha, hj => by
    cases h
    cases h2
    have nd' := List.nodup_cons.mp nd
    have nd2 := List.nodup_append.mp nd'.2
    cases yK e ha
    have hm := List.mem_of_getElem? hj
    refine .on (by rw [Bs fun z => nd'.1 (by rw [z]; exact Dn hm)]; exact e) (q.write r nd2.1 hj) (t.mono (Ao.refl _) fun b hb o e => ?_)
    rw [Bs fun z => nd2.2.2 p hm b hb z.symm]
    exact e
  | _, _, _, i + 1, _, nd, .no t, h, h2, ha, hj => .no (Slots.MN (i := i) r nd t h h2 ha hj)
  | _, _, _, i + 1, _, nd, .sh q t, h, h2, ha, hj => .sh q (Slots.MN (i := i) r nd t h h2 ha hj)
  | _, _, _, i + 1, _, nd, .ow e q t, h, h2, ha, hj => by
    have nd' := List.nodup_cons.mp nd
    have hp := Slots.Zm (i := i) nd'.2 t h h2 ha hj
    exact .ow (by rw [Bs fun z => nd'.1 (by rw [z]; exact hp)]; exact e) q (Slots.MN (i := i) r nd'.2 t h h2 ha hj)
  | _, _, _, i + 1, _, nd, .on e q t, h, h2, ha, hj => by
    have nd' := List.nodup_cons.mp nd
    have nd2 := List.nodup_append.mp nd'.2
    have hp := Slots.Zm (i := i) nd2.2.1 t h h2 ha hj
    exact .on (by rw [Bs fun z => nd'.1 (by rw [z]; exact By hp)]; exact e) (q.mono (Ao.refl _) fun b hb o e => by rw [Bs fun z => nd2.2.2 b hb p hp z]; exact e) (Slots.MN (i := i) r nd2.2.1 t h h2 ha hj)
end
structure CP (K : Frag) (H0 : Hp) (O0 : List Addr) (G : Hp) (σ : St) (H : Hp) (ρ : Aq) : Prop where
  ex : ∃ O, Ao H0 H ∧ (∀ a ∈ O, H0 a = none) ∧ O.Nodup ∧ Ao G (Ah (O0 ++ O) H) ∧ Slots K (Ah (O0 ++ O) H) H σ ρ O
structure Ge (K : Frag) (H0 : Hp) (O0 : List Addr) (G : Hp) (σ : St) (H : Hp) (ρ : Aq) (v : V) (s : Sl) : Prop where
  ex : ∃ O P, Ao H0 H ∧ (∀ a ∈ O, H0 a = none) ∧ O.Nodup ∧ Ao G (Ah (O0 ++ (P ++ O)) H) ∧ Slots K (Ah (O0 ++ (P ++ O)) H) H σ ρ O ∧
    match s with
    | .no => False
    | .sh d => P = [] ∧ Rep K (Ah (O0 ++ (P ++ O)) H) v d
    | .ow ds => ∃ a xs, P = [a] ∧ v = .ref a ∧ a ∉ O ∧ H0 a = none ∧ H a = some (.lst xs) ∧ BP K (Ah (O0 ++ (P ++ O)) H) xs ds
    | .on dss => ∃ a ps, P = a :: ps ∧ v = .ref a ∧ (a :: ps).Nodup ∧ (∀ b ∈ a :: ps, b ∉ O ∧ H0 b = none) ∧ H a = some (.lst (ps.map V.ref)) ∧ Inner K (Ah (O0 ++ (P ++ O)) H) H ps dss
    | .tr a c => P = [a] ∧ v = .ref a ∧ a ∉ O ∧ H0 a = none ∧ HQ K (Ah (O0 ++ (P ++ O)) H) H a c
section
variable {K : Frag} {H0 : Hp} {O0 : List Addr} {G : Hp} {σ : St} {H H' : Hp} {ρ : Aq}
theorem Jj (ok : Cd O0 H0) {O : List Addr} (s0 : Ao H0 H) (sl : Slots K G H σ ρ O) : Cd (O0 ++ O) H := fun a ha => by
  rcases List.mem_append.mp ha with h | h
  · exact (ok.mono s0) a h
  · obtain ⟨o, e, _⟩ := sl.mem a h
    exact ⟨_, e⟩
theorem CP.grow (t : CP K H0 O0 G σ H ρ) (s : Ao H H') : CP K H0 O0 G σ H' ρ := by
  obtain ⟨O, s0, n, nd, g, sl⟩ := t.ex
  exact ⟨O, s0.trans s, n, nd, g.trans (Eg s), sl.mono (Eg s) fun a _ o e => s a o e⟩
theorem Ge.grow {v : V} {d : D} (t : Ge K H0 O0 G σ H ρ v (.sh d)) (s : Ao H H') : Ge K H0 O0 G σ H' ρ v (.sh d) := by
  obtain ⟨O, P, s0, n, nd, g, sl, hp, r⟩ := t.ex
  exact ⟨O, P, s0.trans s, n, nd, g.trans (Eg s), sl.mono (Eg s) fun a _ o e => s a o e, hp, r.Ah s⟩
theorem Ge.str {v : V} {d : D} (t : Ge K H0 O0 G σ H ρ v (.sh d)) : CP K H0 O0 G σ H ρ := by
  obtain ⟨O, P, s0, n, nd, g, sl, hp, r⟩ := t.ex
  subst hp
  exact ⟨O, s0, n, nd, g, sl⟩
theorem Ge.set {v : V} {s : Sl} (t : Ge K H0 O0 G σ H ρ v s) (i : Nat) : CP K H0 O0 G (σ.set i (some v)) H (ρ.set i s) := by
  obtain ⟨O, P, s0, n, nd, g, sl, h⟩ := t.ex
  cases s with
  | no => exact h.elim
  | sh d =>
    obtain ⟨rfl, r⟩ := h
    obtain ⟨O', hs, sl'⟩ := sl.N8 r i
    have sub : ∀ b, b ∈ O0 ++ O' → b ∈ O0 ++ ([] ++ O) := fun b hb => (List.mem_append.mp hb).elim (fun z => Dn z) fun z => By (hs.subset z)
    exact ⟨O', s0, fun a ha => n a (hs.subset ha), hs.nodup nd, g.trans (DY sub), sl'.mono (DY sub) fun _ _ _ e => e⟩
  | ow ds =>
    obtain ⟨a, xs, rfl, rfl, na, h0, e, r⟩ := h
    obtain ⟨O', hs, nd', sl'⟩ := sl.QV e r i na nd
    have sub : ∀ b, b ∈ O0 ++ O' → b ∈ O0 ++ ([a] ++ O) := fun b hb => (List.mem_append.mp hb).elim (fun z => Dn z) fun z => By (by
      rcases hs b z with rfl | z
      · simp
      · simp [z])
    refine ⟨O', s0, fun b hb => ?_, nd', g.trans (DY sub), sl'.mono (DY sub) fun _ _ _ e => e⟩
    rcases hs b hb with rfl | z
    · exact h0
    · exact n b z
  | on dss =>
    obtain ⟨a, ps, rfl, rfl, nda, na, e, r⟩ := h
    obtain ⟨O', hs, nd', sl'⟩ := sl.Qd e r nda i (fun b hb => (na b hb).1) nd
    have sub : ∀ b, b ∈ O0 ++ O' → b ∈ O0 ++ ((a :: ps) ++ O) := fun b hb => (List.mem_append.mp hb).elim (fun z => Dn z) fun z => By (by
      rcases hs b z with z | z
      · exact Dn z
      · exact By z)
    refine ⟨O', s0, fun b hb => ?_, nd', g.trans (DY sub), sl'.mono (DY sub) fun _ _ _ e => e⟩
    rcases hs b hb with z | z
    · exact (na b z).2
    · exact n b z
  | tr a c =>
    obtain ⟨rfl, rfl, na, h0, r⟩ := h
    obtain ⟨O', hs, nd', sl'⟩ := sl.Q3 r i na nd
    have sub : ∀ b, b ∈ O0 ++ O' → b ∈ O0 ++ ([a] ++ O) := fun b hb => (List.mem_append.mp hb).elim (fun z => Dn z) fun z => By (by
      rcases hs b z with rfl | z
      · simp
      · simp [z])
    refine ⟨O', s0, fun b hb => ?_, nd', g.trans (DY sub), sl'.mono (DY sub) fun _ _ _ e => e⟩
    rcases hs b hb with rfl | z
    · exact h0
    · exact n b z
end
inductive Out where
  | nx (ρ : Aq)
  | rt (d : D)
  | rl (ds : List D)
  | rn (dss : List (List D))
  | rp (ds : List D) (d : D)
  | ro (d : D) (ρ : Aq)
  | bk (ρ : Aq)
  | ct (ρ : Aq)
def aW (K : Frag) (H0 : Hp) (O0 : List Addr) (G : Hp) (E : Ends) : Out → Prop
  | .nx ρ => ∀ σ H, CP K H0 O0 G σ H ρ → E.nx σ H
  | .rt d => ∀ v H', Ao H0 H' → Rep K (Ah O0 H') v d → E.rt v H'
  | .rl ds => ∀ a xs H', Ao H0 H' → H0 a = none → H' a = some (.lst xs) → BP K (Ah (a :: O0) H') xs ds → E.rt (.ref a) H'
  | .rn dss => ∀ a ps H', Ao H0 H' → (a :: ps).Nodup → (∀ b ∈ a :: ps, H0 b = none) → H' a = some (.lst (ps.map V.ref)) → Inner K (Ah ((a :: ps) ++ O0) H') H' ps dss → E.rt (.ref a) H'
  | .rp ds d => ∀ p a xs v H', Ao H0 H' → H0 a = none → H0 p = none → H' a = some (.lst xs) → H' p = some (.tup [.ref a, v]) → BP K (Ah (a :: O0) H') xs ds → Rep K (Ah (a :: O0) H') v d → E.rt (.ref p) H'
  | .ro d ρ => ∀ v σ H', Ge K H0 O0 (fun _ => none) σ H' ρ v (.sh d) → E.rt v H'
  | .bk ρ => ∀ σ H, CP K H0 O0 G σ H ρ → E.bk σ H
  | .ct ρ => ∀ σ H, CP K H0 O0 G σ H ρ → E.ct σ H
abbrev Am := Aq → Option Out
def KQ (K : Frag) (ts : TS) (F : Am) : Prop := ∀ (H0 : Hp) (O0 : List Addr) (G : Hp) (σ : St) (H : Hp) (ρ : Aq) (o : Out) (E : Ends), Cd O0 H0 → CP K H0 O0 G σ H ρ → F ρ = some o → aW K H0 O0 G E o → ts E σ H
def Hh (K : Frag) (te : TE) (vf : Aq → Option Sl) : Prop := ∀ (H0 : Hp) (O0 : List Addr) (G : Hp) (σ : St) (H : Hp) (ρ : Aq) (s : Sl) (Q : VK), Cd O0 H0 → CP K H0 O0 G σ H ρ → vf ρ = some s →
  (∀ v H', Ao H H' → Ge K H0 O0 G σ H' ρ v s → Q v H') → te σ H Q
structure JS (X : Cx) (K : Frag) (st : Stmt) (ts : TS) (F : Am) : Prop where
  pe : PS X st ts
  pu : KQ K ts F
structure Gu (X : Cx) (K : Frag) (st : List Stmt) (ts : TS) (F : Am) : Prop where
  pe : Ez X st ts
  pu : KQ K ts F
mutual
def Gs : D → Bool
  | .list _ => false
  | .dict _ => false
  | .tuple ds => GJ ds
  | _ => true
def GJ : List D → Bool
  | [] => true
  | d :: ds => Gs d && GJ ds
end
section
variable {K : Frag} {O0 O : List Addr} {H : Hp}
mutual
theorem zN (h : ∀ a ∈ O, ∃ o, H a = some o ∧ Vg o = true) : ∀ {v : V} {d : D}, Rep K (Ah O0 H) v d → Gs d = true → Rep K (Ah (O0 ++ O) H) v d
  | _, _, .non, _ => .non
  | _, _, .bl b, _ => .bl b
  | _, _, .int i, _ => .int i
  | _, _, .str x, _ => .str x
  | _, _, .lst _ _, f => by simp [Gs] at f
  | _, _, .tup (a := a) q r, f => by
    have hr := Yp h r (by simpa [Gs] using f)
    refine .tup ?_ hr
    rcases q with (q | ⟨o, q⟩) | q
    · obtain ⟨n, q⟩ := Iw q
      have na : a ∉ O := fun z => by
        obtain ⟨_, e, e2⟩ := h a z
        rw [q] at e
        cases e
        cases e2
      exact .inl (.inl (by rw [Cm (by simp [n, na])]; exact q))
    · obtain ⟨n, q⟩ := Iw q
      have na : a ∉ O := fun z => by
        obtain ⟨_, e, e2⟩ := h a z
        rw [q] at e
        cases e
        cases e2
      exact .inl (.inr ⟨o, by rw [Cm (by simp [n, na])]; exact q⟩)
    · exact .inr q
theorem Yp (h : ∀ a ∈ O, ∃ o, H a = some o ∧ Vg o = true) : ∀ {vs : List V} {ds : List D}, BP K (Ah O0 H) vs ds → GJ ds = true → BP K (Ah (O0 ++ O) H) vs ds
  | _, _, .nil, _ => .nil
  | _, _, .cons r t, f => by
    have f' := Bool.and_eq_true_iff.mp (show (Gs _ && GJ _) = true from f)
    exact .cons (zN h r f'.1) (Yp h t f'.2)
end
end
def vF (f : PF) : Aq → Option Sl := fun ρ => (f (full ρ)).bind fun d => if Gs d = true then some (.sh d) else none
def vS (f : PF) : Aq → Option Sl := fun ρ => (f (masked ρ)).bind fun d => some (.sh d)
def vL (f : BW) : Aq → Option Sl := fun ρ => (f (masked ρ)).bind fun ds => some (.ow ds)
def R4 (f : BW) : Aq → Option Sl := fun ρ => (f (full ρ)).bind fun ds => if GJ ds = true then some (.ow ds) else none
section
variable {K : Frag} {te : TE} {f : PF} {fl : BW}
theorem CP.HR {H0 : Hp} {O0 : List Addr} {G : Hp} {σ : St} {H : Hp} {ρ : Aq} (ok : Cd O0 H0) (t : CP K H0 O0 G σ H ρ) : Cd O0 H ∧ Dm K (Ah O0 H) σ (full ρ) := by
  obtain ⟨O, s0, n, nd, g, sl⟩ := t.ex
  refine ⟨ok.mono s0, sl.full (DY fun b hb => Dn hb) fun a ha o e => ?_⟩
  rw [Cm (ok.fresh (n a ha))]
  exact e
theorem PX (h : G8 K te f) : Hh K te (vS f) := by
  intro H0 O0 G σ H ρ s Q ok t hf q
  obtain ⟨d, e1, hf⟩ := Ar hf
  cases hf
  obtain ⟨O, s0, n, nd, g, sl⟩ := t.ex
  refine h (O0 ++ O) σ H (masked ρ) d Q (Jj ok s0 sl) sl.mask e1 fun v H' s' r => q v H' s' ⟨O, [], s0.trans s', n, nd, g.trans (Eg s'), sl.mono (Eg s') fun a _ o e => s' a o e, rfl, r⟩
theorem AJS (h : G8 K te f) : Hh K te (vF f) := by
  intro H0 O0 G σ H ρ s Q ok t hf q
  obtain ⟨d, e1, hf⟩ := Ar hf
  by_cases hc : Gs d = true
  · rw [if_pos hc] at hf
    cases hf
    have ⟨o1, e2⟩ := t.HR ok
    obtain ⟨O, s0, n, nd, g, sl⟩ := t.ex
    refine h O0 σ H (full ρ) d Q o1 e2 e1 fun v H' s' r => ?_
    have sl' := sl.mono (Eg (O := O0 ++ O) s') fun a _ o e => s' a o e
    exact q v H' s' ⟨O, [], s0.trans s', n, nd, g.trans (Eg s'), sl', rfl, zN sl'.mem r hc⟩
  · rw [if_neg hc] at hf
    cases hf
theorem AFH {O0 O : List Addr} {a : Addr} {H : Hp} : Ah (a :: (O0 ++ O)) H = Ah (O0 ++ ([a] ++ O)) H := by
  funext b
  by_cases h : b ∈ a :: (O0 ++ O)
  · rw [QF h, QF (by simp at h ⊢; rcases h with h | h | h <;> simp [h])]
  · rw [Cm h, Cm (by simp at h ⊢; exact ⟨h.2.1, h.1, h.2.2⟩)]
theorem gW (h : Le K te fl) : Hh K te (vL fl) := by
  intro H0 O0 G σ H ρ s Q ok t hf q
  obtain ⟨d, e1, hf⟩ := Ar hf
  cases hf
  obtain ⟨O, s0, n, nd, g, sl⟩ := t.ex
  have okA := Jj ok s0 sl
  refine h (O0 ++ O) σ H (masked ρ) d Q okA sl.mask e1 fun a xs H' s' hn ha r => ?_
  have na : a ∉ O := fun z => okA.fresh hn (By z)
  have big : Ao (Ah (O0 ++ O) H) (Ah (O0 ++ ([a] ++ O)) H') := fun b o e => by
    obtain ⟨n1, e⟩ := Iw e
    have nb : b ≠ a := Ey e hn
    rw [Cm (by simp at n1 ⊢; exact ⟨n1.1, nb, n1.2⟩)]
    exact s' b o e
  refine q (.ref a) H' s' ⟨O, [a], s0.trans s', n, nd, g.trans big, sl.mono big fun b _ o e => s' b o e, a, xs, rfl, rfl, na, s0.free hn, ha, ?_⟩
  rw [← AFH]
  exact r
theorem CP.R5 {H0 : Hp} {O0 : List Addr} {G : Hp} {σ : St} {H : Hp} {ρ : Aq} {d : D} {Q : VK} (h : G8 K te f) (ok : Cd O0 H0) (t : CP K H0 O0 G σ H ρ) (e1 : f (L2.full ρ) = some d) (q : ∀ v H', Ao H H' → CP K H0 O0 G σ H' ρ → Rep K (Ah O0 H') v d → Q v H') : te σ H Q := by
  have ⟨o1, e2⟩ := t.HR ok
  exact h O0 σ H (L2.full ρ) d Q o1 e2 e1 fun v H' s' r => q v H' s' (t.grow s') r
theorem CP.same {H0 : Hp} {O0 : List Addr} {G : Hp} {σ : St} {H : Hp} {ρ : Aq} (t : CP K H0 O0 G σ H ρ) : Ao H0 H := by
  obtain ⟨O, s0, _⟩ := t.ex
  exact s0
end
def CQ : Am := fun ρ => some (.nx ρ)
def Al (F F' : Am) : Am := fun ρ => (F ρ).bind fun o => match o with
  | .nx ρ' => F' ρ'
  | .rt d => some (.rt d)
  | .rl d => some (.rl d)
  | .rn d => some (.rn d)
  | .rp d e => some (.rp d e)
  | .ro d e => some (.ro d e)
  | .bk ρ' => some (.bk ρ')
  | .ct ρ' => some (.ct ρ')
def Ay (i : Nat) (vf : Aq → Option Sl) : Am := fun ρ => (vf ρ).bind fun s => some (.nx (ρ.set i s))
def lY (f : PF) : Am := fun ρ => (f (full ρ)).bind fun _ => some (.nx ρ)
def Bh (f : PF) : Am := fun ρ => (f (full ρ)).bind fun d => some (.rt d)
def Dr (f : BW) : Am := fun ρ => (f (full ρ)).bind fun d => some (.rl d)
def Lh : Sl → Option (List D)
  | .ow ds => some ds
  | _ => none
def Kw : Sl → Option D
  | .sh d => some d
  | _ => none
def LR (i : Nat) : Am := fun ρ => (ρ[i]?).bind fun s => (Lh s).bind fun ds => some (.rl ds)
def pJ : Am := fun _ => some (.rt .none)
def Bq (c : PB) (F F' : Am) : Am := fun ρ => (c (full ρ)).bind fun b => if b = true then F ρ else F' ρ
def FN : Am := fun _ => none
def Od (i : Nat) (vf : Aq → Option Sl) : Am := fun ρ => (vf ρ).bind fun s => (Kw s).bind fun d => (ρ[i]?).bind fun s' => (Lh s').bind fun ds => if fits ds.length = true then some (.nx (ρ.set i (.ow (ds ++ [d])))) else none
def Kg (i : Nat) (fi : PF) (vf : Aq → Option Sl) : Am := fun ρ => (vf ρ).bind fun s => (Kw s).bind fun d => (fi (full ρ)).bind fun k => (Ij k).bind fun k => (ρ[i]?).bind fun s' => (Lh s').bind fun ds => (GR ds.length k).bind fun j => some (.nx (ρ.set i (.ow (ds.set j d))))
def wA (i : Nat) : Am := fun ρ => (ρ[i]?).bind fun s' => (Lh s').bind fun _ => some (.nx (ρ.set i (.ow [])))
def ABN : Sl → Sl
  | .ow ds => .sh (.list ds)
  | s => s
def AIY (i : Nat) (ρ : Aq) : Aq := ρ.modify i ABN
def qY (i : Nat) (F : Am) : Am := fun ρ => F (AIY i ρ)
section
variable {X : Cx} {K : Frag} {st : Stmt} {rest : List Stmt} {t u : TS} {F F' : Am} {pos : Pos}
theorem Er : Gu X K [] mC CQ := ⟨AHG, by
  intro H0 O0 G σ H ρ o E ok s hf q
  cases hf
  exact q σ H s⟩
theorem Bc (h : JS X K st t F) : Gu X K [st] t F := ⟨eN h.pe, h.pu⟩
theorem Bb (h1 : JS X K st t F) (h2 : Gu X K rest u F') : Gu X K (st :: rest) (Yw t u) (Al F F') := ⟨aV h1.pe h2.pe, by
  intro H0 O0 G σ H ρ o E ok s hf q
  obtain ⟨o1, e1, hf⟩ := Ar hf
  refine h1.pu H0 O0 G σ H ρ o1 _ ok s e1 ?_
  cases o1 with
  | nx ρ' => exact fun σ' H' s' => h2.pu H0 O0 G σ' H' ρ' o E ok s' hf q
  | rt d => cases hf; exact q
  | rl d => cases hf; exact q
  | rn d => cases hf; exact q
  | rp d e => cases hf; exact q
  | ro d e => cases hf; exact q
  | bk d => cases hf; exact q
  | ct d => cases hf; exact q⟩
theorem yC : JS X K st Ue FN := ⟨AH4, by
  intro H0 O0 G σ H ρ o E ok s hf q
  cases hf⟩
theorem Qm {te : TE} {i : Nat} {vf : Aq → Option Sl} (h : PS X st (Gg te (El i))) (pv : Hh K te vf) : JS X K st (Gg te (El i)) (Ay i vf) := ⟨h, by
  intro H0 O0 G σ H ρ o E ok s hf q
  obtain ⟨v, e1, hf⟩ := Ar hf
  cases hf
  exact pv H0 O0 G σ H ρ v _ ok s e1 fun x H' s' sv => q _ H' (sv.set i)⟩
section
variable {i : Nat} {x : Str} {e : Expr} {te : TE} {pos' : Pos}
theorem CZ {f : PF} (hN : X.N.Nodup) (hi : X.N[i]? = some x) (hx : Loc X.env.scope x) (he : JE X K e te f) (hs : swapsWith e (some (.Name x pos')) pos.line X.env = pure false := by rfl) (hf : X.fn x = true ∨ X.env.scope.names.lookup x = some .local := by first | exact .inl rfl | exact .inr rfl | assumption) :
    JS X K (.Assign [.Name x pos'] e pos) (Gg te (El i)) (Ay i (vS f)) := Qm (WN hN hi hx he.pe hs hf) (PX he.pu)
theorem jQ {f : BW} (hN : X.N.Nodup) (hi : X.N[i]? = some x) (hx : Loc X.env.scope x) (he : JL X K e te f) (hs : swapsWith e (some (.Name x pos')) pos.line X.env = pure false := by rfl) (hf : X.fn x = true ∨ X.env.scope.names.lookup x = some .local := by first | exact .inl rfl | exact .inr rfl | assumption) :
    JS X K (.Assign [.Name x pos'] e pos) (Gg te (El i)) (Ay i (vL f)) := Qm (WN hN hi hx he.pe hs hf) (gW he.pu)
end
theorem Cg {e : Expr} {te : TE} {f : PF} (he : JE X K e te f) : JS X K (.Return (some e) pos) (N6 te) (Bh f) := ⟨Qn he.pe, by
  intro H0 O0 G σ H ρ o E ok s hf q
  obtain ⟨d, e1, hf⟩ := Ar hf
  cases hf
  exact s.R5 he.pu ok e1 fun v H' s' t' r => q v H' t'.same r⟩
theorem Hy {e : Expr} {te : TE} {f : BW} (he : JL X K e te f) : JS X K (.Return (some e) pos) (N6 te) (Dr f) := ⟨Qn he.pe, by
  intro H0 O0 G σ H ρ o E ok s hf q
  obtain ⟨d, e1, hf⟩ := Ar hf
  cases hf
  have ⟨o1, e2⟩ := s.HR ok
  exact he.pu O0 σ H (full ρ) d _ o1 e2 e1 fun a xs H' s' hn ha r => q a xs H' (s.same.trans s') (s.same.free hn) ha r⟩
theorem jX (i : Nat) {x : Str} {p : Pos} (hN : X.N[i]? = some x := by rfl) (hv : Ig X.env.scope x := by first | exact Or.inl rfl | exact Or.inr (Or.inl rfl) | exact Or.inr (Or.inr rfl)) (hd : (x == ("__debug__" : Str)) = false := by decide)
    (hcd : (x == ("__classdict__" : Str)) = false := by decide) : JS X K (.Return (some (.Name x p)) pos) (N6 (Eh i)) (LR i) := ⟨Qn (M4 hN hv hd hcd), by
  intro H0 O0 G σ H ρ o E ok s hf q
  obtain ⟨sl, e1, hf⟩ := Ar hf
  obtain ⟨ds, e2, hf⟩ := Ar hf
  cases hf
  cases sl with
  | ow es =>
    cases e2
    obtain ⟨O, s0, n, nd, g, sl⟩ := s.ex
    obtain ⟨a, xs, h1, h2, h3, h4⟩ := sl.HW e1
    refine ⟨_, h1, q a xs H s0 (n a h2) h3 (h4.mono (DY fun b hb => ?_))⟩
    rcases List.mem_cons.mp hb with rfl | hb
    · exact By h2
    · exact Dn hb
  | _ => cases e2⟩
theorem Fd {c : Expr} {a b : List Stmt} {tc : TT} {pc : PB} (hc : JT X K c tc pc) (ha : Gu X K a t F) (hb : Gu X K b u F') : JS X K (.If c a b pos) (iD tc t u) (Bq pc F F') := ⟨yX hc.pe ha.pe hb.pe, by
  intro H0 O0 G σ H ρ o E ok s hf q
  obtain ⟨k, e1, hf⟩ := Ar hf
  have ⟨o1, e2⟩ := s.HR ok
  refine hc.pu O0 σ H (full ρ) k _ o1 e2 e1 fun H' s' => ?_
  cases k with
  | true =>
    rw [if_pos rfl] at hf ⊢
    exact ha.pu H0 O0 G σ H' ρ o E ok (s.grow s') hf q
  | false =>
    rw [if_neg Bool.false_ne_true] at hf ⊢
    exact hb.pu H0 O0 G σ H' ρ o E ok (s.grow s') hf q⟩
end
end L2
namespace L2
open PySem PySem.Spec PyProof.Rows
structure M6 (K : Frag) (H0 : Hp) (O0 : List Addr) (G : Hp) (σ : St) (H : Hp) (ρ : Aq) (vs : List V) (ds : List D) : Prop where
  ex : ∃ O, Ao H0 H ∧ (∀ a ∈ O, H0 a = none) ∧ O.Nodup ∧ Ao G (Ah (O0 ++ O) H) ∧ Slots K (Ah (O0 ++ O) H) H σ ρ O ∧ BP K (Ah (O0 ++ O) H) vs ds
def aH (K : Frag) (g : TG) (bs : D → Aq → Option Aq) : Prop := ∀ (H0 : Hp) (O0 : List Addr) (G : Hp) (σ : St) (H : Hp) (ρ : Aq) (v : V) (d : D) (ρ' : Aq) (Q : St → Hp → Prop), Ge K H0 O0 G σ H ρ v (.sh d) → bs d ρ = some ρ' →
  (∀ σ', CP K H0 O0 G σ' H ρ' → Q σ' H) → g v σ H Q
structure TQ (X : Cx) (K : Frag) (tg : Expr) (g : TG) (bs : D → Aq → Option Aq) : Prop where
  pe : PG X tg g
  pu : aH K g bs
def J3 (i : Nat) : D → Aq → Option Aq := fun d ρ => some (ρ.set i (.sh d))
def Fo (i j : Nat) : D → Aq → Option Aq
  | .tuple [a, b], ρ => some ((ρ.set i (.sh a)).set j (.sh b))
  | _, _ => none
def Sy (i j k : Nat) : D → Aq → Option Aq
  | .tuple [a, b, c], ρ => some (((ρ.set i (.sh a)).set j (.sh b)).set k (.sh c))
  | _, _ => none
section
variable {X : Cx} {K : Frag} {pos : Pos}
theorem M6.set {H0 : Hp} {O0 : List Addr} {G : Hp} {σ : St} {H : Hp} {ρ : Aq} {v : V} {d : D} {vs : List V} {ds : List D} (t : M6 K H0 O0 G σ H ρ (v :: vs) (d :: ds)) (i : Nat) : M6 K H0 O0 G (σ.set i (some v)) H (ρ.set i (.sh d)) vs ds := by
  obtain ⟨O, s0, n, nd, g, sl, r⟩ := t.ex
  cases r with
  | cons r rs =>
    obtain ⟨O', hs, sl'⟩ := sl.N8 r i
    have sub : ∀ b, b ∈ O0 ++ O' → b ∈ O0 ++ O := fun b hb => (List.mem_append.mp hb).elim (fun z => Dn z) fun z => By (hs.subset z)
    exact ⟨O', s0, fun a ha => n a (hs.subset ha), hs.nodup nd, g.trans (DY sub), sl'.mono (DY sub) fun _ _ _ e => e, rs.mono (DY sub)⟩
theorem M6.str {H0 : Hp} {O0 : List Addr} {G : Hp} {σ : St} {H : Hp} {ρ : Aq} {vs : List V} {ds : List D} (t : M6 K H0 O0 G σ H ρ vs ds) : CP K H0 O0 G σ H ρ := by
  obtain ⟨O, s0, n, nd, g, sl, r⟩ := t.ex
  exact ⟨O, s0, n, nd, g, sl⟩
theorem Ge.parts {H0 : Hp} {O0 : List Addr} {G : Hp} {σ : St} {H : Hp} {ρ : Aq} {v : V} {ds : List D} (t : Ge K H0 O0 G σ H ρ v (.sh (.tuple ds))) : ∃ a xs, v = .ref a ∧ Dt K H a xs ∧ M6 K H0 O0 G σ H ρ xs ds := by
  obtain ⟨O, P, s0, n, nd, g, sl, rfl, r⟩ := t.ex
  cases r with
  | tup q r' => exact ⟨_, _, rfl, Dd.Li q, O, s0, n, nd, g, sl, r'⟩
theorem M6.len {H0 : Hp} {O0 : List Addr} {G : Hp} {σ : St} {H : Hp} {ρ : Aq} {vs : List V} {ds : List D} (t : M6 K H0 O0 G σ H ρ vs ds) : vs.length = ds.length := by
  obtain ⟨O, s0, n, nd, g, sl, r⟩ := t.ex
  exact r.length
theorem Wx {i : Nat} {x : Str} (hN : X.N.Nodup) (hi : X.N[i]? = some x) (hx : Loc X.env.scope x) (hf : X.fn x = true ∨ X.env.scope.names.lookup x = some .local := by first | exact .inl rfl | exact .inr rfl | assumption) : TQ X K (.Name x pos) (El i) (J3 i) := ⟨Ko hN hi hx hf, by
  intro H0 O0 G σ H ρ v d ρ' Q t hb q
  cases hb
  exact q _ (t.set i)⟩
theorem iV {i j : Nat} {x y : Str} {p1 p2 : Pos} {k : Nat} (hK : X.K = K) (hc : X.calm = true) (hN : X.N.Nodup) (hi : X.N[i]? = some x) (hx : Loc X.env.scope x) (hj : X.N[j]? = some y) (hy : Loc X.env.scope y) (hf : X.fn x = true ∨ X.env.scope.names.lookup x = some .local := by first | exact .inl rfl | exact .inr rfl | assumption) (hf2 : X.fn y = true ∨ X.env.scope.names.lookup y = some .local := by first | exact .inl rfl | exact .inr rfl | assumption) (h1 : (assignEach [.Name x p1, .Name y p2] X.env).map (·.2) = assign (.Name x p1) X.env :: (assignEach [.Name y p2] X.env).map (·.2) := by rfl) (h2 : (assignEach [.Name y p2] X.env).map (·.2) = assign (.Name y p2) X.env :: (assignEach [] X.env).map (·.2) := by rfl) (hn : (assignEach [.Name x p1, .Name y p2] X.env).length = 2 := by rfl) (hst : (assignEach [.Name x p1, .Name y p2] X.env).findIdx? (·.1) = none := by rfl) :
    TQ X K (.Tuple [.Name x p1, .Name y p2] k pos) (VH K 2 (KJ (El i) (KJ (El j) Uc))) (Fo i j) := ⟨by
  subst hK
  exact j0 hc (Oj (Ko hN hi hx hf) (Oj (Ko hN hj hy hf2) Zj h2) h1) hn hst, by
  intro H0 O0 G σ H ρ v d ρ' Q t hb q
  unfold Fo at hb
  split at hb
  · rename_i a b _
    cases hb
    obtain ⟨p, xs, rfl, hq, ts⟩ := t.parts
    have hl := ts.len
    match xs, hl with
    | [v1, v2], _ => exact ⟨p, _, rfl, hq, rfl, _, _, rfl, _, _, rfl, rfl, q _ ((ts.set i).set j).str⟩
  · cases hb⟩
theorem AGW {i j l : Nat} {x y z : Str} {p1 p2 p3 : Pos} {k : Nat} (hK : X.K = K) (hc : X.calm = true) (hN : X.N.Nodup) (hi : X.N[i]? = some x) (hx : Loc X.env.scope x) (hj : X.N[j]? = some y) (hy : Loc X.env.scope y) (hl : X.N[l]? = some z) (hz : Loc X.env.scope z) (hf : X.fn x = true ∨ X.env.scope.names.lookup x = some .local := by first | exact .inl rfl | exact .inr rfl | assumption) (hf2 : X.fn y = true ∨ X.env.scope.names.lookup y = some .local := by first | exact .inl rfl | exact .inr rfl | assumption) (hf3 : X.fn z = true ∨ X.env.scope.names.lookup z = some .local := by first | exact .inl rfl | exact .inr rfl | assumption) (h1 : (assignEach [.Name x p1, .Name y p2, .Name z p3] X.env).map (·.2) = assign (.Name x p1) X.env :: (assignEach [.Name y p2, .Name z p3] X.env).map (·.2) := by rfl) (h2 : (assignEach [.Name y p2, .Name z p3] X.env).map (·.2) = assign (.Name y p2) X.env :: (assignEach [.Name z p3] X.env).map (·.2) := by rfl) (h3 : (assignEach [.Name z p3] X.env).map (·.2) = assign (.Name z p3) X.env :: (assignEach [] X.env).map (·.2) := by rfl) (hn : (assignEach [.Name x p1, .Name y p2, .Name z p3] X.env).length = 3 := by rfl) (hst : (assignEach [.Name x p1, .Name y p2, .Name z p3] X.env).findIdx? (·.1) = none := by rfl) :
    TQ X K (.Tuple [.Name x p1, .Name y p2, .Name z p3] k pos) (VH K 3 (KJ (El i) (KJ (El j) (KJ (El l) Uc)))) (Sy i j l) := ⟨by
  subst hK
  exact j0 hc (Oj (Ko hN hi hx hf) (Oj (Ko hN hj hy hf2) (Oj (Ko hN hl hz hf3) Zj h3) h2) h1) hn hst, by
  intro H0 O0 G σ H ρ v d ρ' Q t hb q
  unfold Sy at hb
  split at hb
  · rename_i a b c _
    cases hb
    obtain ⟨p, xs, rfl, hq, ts⟩ := t.parts
    have hl := ts.len
    match xs, hl with
    | [v1, v2, v3], _ => exact ⟨p, _, rfl, hq, rfl, _, _, rfl, _, _, rfl, _, _, rfl, rfl, q _ (((ts.set i).set j).set l).str⟩
  · cases hb⟩
def ZD (bs : D → Aq → Option Aq) (vf : Aq → Option Sl) : Am := fun ρ => (vf ρ).bind fun s => (Kw s).bind fun d => (bs d ρ).bind fun ρ' => some (.nx ρ')
theorem Zg {s : Sl} {d : D} (h : Kw s = some d) : s = .sh d := by
  cases s with
  | sh e => cases h; rfl
  | _ => cases h
theorem dY {s : Sl} {d : List D} (h : Lh s = some d) : s = .ow d := by
  cases s with
  | ow e => cases h; rfl
  | _ => cases h
def Dl (bs : D → Aq → Option Aq) (F : Am) : List D → Aq → Option Out
  | [], ρ => some (.nx ρ)
  | d :: ds, ρ => (bs d ρ).bind fun ρ1 => (F ρ1).bind fun o => match o with
    | .nx ρ' => Dl bs F ds ρ'
    | .ct ρ' => Dl bs F ds ρ'
    | .bk ρ' => some (.nx ρ')
    | .rt d => some (.rt d)
    | .rl d => some (.rl d)
    | .rn d => some (.rn d)
    | .rp d e => some (.rp d e)
    | .ro d e => some (.ro d e)
def Hk (fi : BW) (bs : D → Aq → Option Aq) (F : Am) : Am := fun ρ => (fi (masked ρ)).bind fun items => Dl bs F items ρ
theorem CP.ghost {H0 : Hp} {O0 : List Addr} {G G1 : Hp} {σ : St} {H : Hp} {ρ : Aq} (t : CP K H0 O0 G1 σ H ρ) (g : Ao G G1) : CP K H0 O0 G σ H ρ := by
  obtain ⟨O, s0, n, nd, g1, sl⟩ := t.ex
  exact ⟨O, s0, n, nd, g.trans g1, sl⟩
theorem AEZ {wi : TI} {g : TG} {tb : TS} {fi : BW} {bs : D → Aq → Option Aq} {F : Am} (hi : Yc K wi fi) (hg : aH K g bs) (hb : KQ K tb F) : KQ K (Wj wi g tb) (Hk fi bs F) := by
  intro H0 O0 G σ H ρ o E ok s hf q
  obtain ⟨items, e1, hf⟩ := Ar hf
  obtain ⟨O, s0, n, nd, gg, sl⟩ := s.ex
  refine hi (O0 ++ O) σ H (masked ρ) items _ (Jj ok s0 sl) sl.mask e1 fun J H1 s1 it => ?_
  have t1 : CP K H0 O0 (Ah (O0 ++ O) H1) σ H1 ρ := ⟨O, s0.trans s1, n, nd, Ao.refl _, sl.mono (Eg s1) fun a _ o e => s1 a o e⟩
  have gG : Ao G (Ah (O0 ++ O) H1) := gg.trans (Eg s1)
  refine ⟨fun i m σ H => m = items.length - i ∧ i ≤ items.length ∧ ∃ ρi, CP K H0 O0 (Ah (O0 ++ O) H1) σ H ρi ∧ Dl bs F (items.drop i) ρi = some o, ⟨items.length, by simp, Nat.zero_le _, ρ, t1, by simpa using hf⟩, ?_⟩
  rintro i m σ' H' ⟨rfl, hil, ρi, ti, hfi⟩
  obtain ⟨O', s0', n', nd', g', sl'⟩ := ti.ex
  have I := it (O0 ++ O') H' (Jj ok s0' sl') g'
  by_cases hlt : i < items.length
  · refine .inr ⟨I.1 i hlt, fun σ' H' => ∃ ρ', CP K H0 O0 (Ah (O0 ++ O) H1) σ' H' ρ' ∧ Dl bs F (items.drop (i + 1)) ρ' = some o, fun σ2 H2 ⟨ρ', t', h'⟩ => ⟨items.length - (i + 1), by omega, rfl, hlt, ρ', t', h'⟩, fun x H'' y => ?_⟩
    obtain ⟨d, ed, s'', rd⟩ := I.2.1 i x H'' hlt y
    have hdrop : items.drop i = d :: items.drop (i + 1) := by
      rw [List.drop_eq_getElem_cons hlt]
      congr 1
      exact Option.some.inj ((List.getElem?_eq_getElem hlt).symm.trans ed)
    rw [hdrop] at hfi
    obtain ⟨ρ1, eb, hfi⟩ := Ar hfi
    obtain ⟨o1, eo, hfi⟩ := Ar hfi
    have sv : Ge K H0 O0 (Ah (O0 ++ O) H1) σ' H'' ρi x (.sh d) := ⟨O', [], s0'.trans s'', n', nd', g'.trans (Eg s''), sl'.mono (Eg s'') fun a _ o e => s'' a o e, rfl, rd⟩
    refine hg H0 O0 _ σ' H'' ρi x d ρ1 _ sv eb fun σ2 t2 => ?_
    refine hb H0 O0 _ σ2 H'' ρ1 o1 _ ok t2 eo ?_
    cases o1 with
    | nx ρ' => exact fun σ3 H3 t3 => ⟨ρ', t3, hfi⟩
    | ct ρ' => exact fun σ3 H3 t3 => ⟨ρ', t3, hfi⟩
    | bk ρ' => cases hfi; exact fun σ3 H3 t3 => q σ3 H3 (t3.ghost gG)
    | rt d => cases hfi; exact q
    | rl d => cases hfi; exact q
    | rn d => cases hfi; exact q
    | rp d e => cases hfi; exact q
    | ro d e => cases hfi; exact q
  · have e : i = items.length := by omega
    subst e
    rw [List.drop_length] at hfi
    cases hfi
    exact .inl ⟨I.2.2, q σ' H' (ti.ghost gG)⟩
theorem Og {tg iter : Expr} {body : List Stmt} {wi : TI} {g : TG} {tb : TS} {fi : BW} {bs : D → Aq → Option Aq} {F : Am} (hp : PassesOwn (model X.prog X.w) X.A X.env X.xe) (hc : X.calm = true) (hi : JI X K tg iter wi fi) (hg : TQ X K tg g bs) (hb : Gu X K body tb F) (hs : ∀ x, foldedSetIterable iter X.env x = pure x := by intro _; rfl) : JS X K (.For tg iter body [] pos) (Wj wi g tb) (Hk fi bs F) := ⟨xZ hp hc hi.pe hg.pe hb.pe hs, AEZ hi.pu hg.pu hb.pu⟩
def J4 (c : PB) (F : Am) : Nat → Am
  | 0 => fun _ => none
  | n + 1 => fun ρ => (c (full ρ)).bind fun b => if b = true then (F ρ).bind fun o => match o with
      | .nx ρ' => J4 c F n ρ'
      | .ct ρ' => J4 c F n ρ'
      | .bk ρ' => some (.nx ρ')
      | .rt d => some (.rt d)
      | .rl d => some (.rl d)
      | .rn d => some (.rn d)
      | .rp d e => some (.rp d e)
      | .ro d e => some (.ro d e)
    else some (.nx ρ)
theorem AHP {c : TT} {tb : TS} {pc : PB} {F : Am} (n : Nat) (hc : Oo K c pc) (hb : KQ K tb F) : KQ K (b7 c tb) (J4 pc F n) := by
  intro H0 O0 G σ H ρ o E ok s hf q
  refine ⟨fun m σ H => ∃ ρ, CP K H0 O0 G σ H ρ ∧ J4 pc F m ρ = some o, ⟨n, ρ, s, hf⟩, ?_⟩
  rintro m σ' H' ⟨ρ', t, hf⟩
  cases m with
  | zero => cases hf
  | succ m =>
    obtain ⟨b, e1, hf⟩ := Ar hf
    have ⟨o1, e2⟩ := t.HR ok
    refine hc O0 σ' H' (full ρ') b _ o1 e2 e1 fun H1 s1 => ?_
    have t1 := t.grow s1
    cases b with
    | true =>
      rw [if_pos rfl] at hf ⊢
      obtain ⟨o2, eo, hf⟩ := Ar hf
      refine ⟨fun σ2 H2 => ∃ ρ2, CP K H0 O0 G σ2 H2 ρ2 ∧ J4 pc F m ρ2 = some o, fun σ2 H2 z => ⟨m, Nat.lt_succ_self m, z⟩, ?_⟩
      refine hb H0 O0 G σ' H1 ρ' o2 _ ok t1 eo ?_
      cases o2 with
      | nx ρ2 => exact fun σ3 H3 t3 => ⟨ρ2, t3, hf⟩
      | ct ρ2 => exact fun σ3 H3 t3 => ⟨ρ2, t3, hf⟩
      | bk ρ2 => cases hf; exact fun σ3 H3 t3 => q σ3 H3 t3
      | rt d => cases hf; exact q
      | rl d => cases hf; exact q
      | rn d => cases hf; exact q
      | rp d e => cases hf; exact q
      | ro d e => cases hf; exact q
    | false =>
      rw [if_neg Bool.false_ne_true] at hf ⊢
      cases hf
      exact q σ' H1 t1
theorem ADV {c : Expr} {body : List Stmt} {tc : TT} {tb : TS} {pc : PB} {F : Am} (n : Nat) (hp : PassesOwn (model X.prog X.w) X.A X.env X.xe) (hc : JT X K c tc pc) (hb : Gu X K body tb F) : JS X K (.While c body [] pos) (b7 tc tb) (J4 pc F n) := ⟨AKY hp hc.pe hb.pe, AHP n hc.pu hb.pu⟩
theorem CP.write {H0 : Hp} {O0 : List Addr} {G : Hp} {σ : St} {H : Hp} {ρ : Aq} {v : V} {d : D} {i : Nat} {ds : List D} (t : Ge K H0 O0 G σ H ρ v (.sh d)) (hi : ρ[i]? = some (.ow ds)) :
    ∃ a xs, σ[i]? = some (some (.ref a)) ∧ H a = some (.lst xs) ∧ xs.length = ds.length ∧ CP K H0 O0 G σ (upd H a (.lst (xs ++ [v]))) (ρ.set i (.ow (ds ++ [d]))) ∧ (∀ j, CP K H0 O0 G σ (upd H a (.lst (xs.set j v))) (ρ.set i (.ow (ds.set j d)))) := by
  obtain ⟨O, P, s0, n, nd, g, sl, rfl, r⟩ := t.ex
  obtain ⟨a, xs, h1, h2, h3, h4⟩ := sl.HW hi
  have s0' : ∀ ys, Ao H0 (upd H a (.lst ys)) := fun ys b o e => by
    rw [Bs (Ey e (n a h2))]
    exact s0 b o e
  have hh : ∀ ys, Ah (O0 ++ ([] ++ O)) (upd H a (.lst ys)) = Ah (O0 ++ ([] ++ O)) H := fun ys => M8 (by simp [h2])
  refine ⟨a, xs, h1, h3, h4.length, ⟨O, s0' _, n, nd, ?_, ?_⟩, fun j => ⟨O, s0' _, n, nd, ?_, ?_⟩⟩
  · have := hh (xs ++ [v]); simp only [List.nil_append] at this g ⊢; rw [this]; exact g
  · have := sl.write (h4.append (.cons r .nil)) nd hi h1; have e := hh (xs ++ [v]); simp only [List.nil_append] at this e ⊢; rw [e]; exact this
  · have := hh (xs.set j v); simp only [List.nil_append] at this g ⊢; rw [this]; exact g
  · have := sl.write (h4.set r j) nd hi h1; have e := hh (xs.set j v); simp only [List.nil_append] at this e ⊢; rw [e]; exact this
theorem CP.HW {H0 : Hp} {O0 : List Addr} {G : Hp} {σ : St} {H : Hp} {ρ : Aq} {i : Nat} {ds : List D} (t : CP K H0 O0 G σ H ρ) (hi : ρ[i]? = some (.ow ds)) : ∃ a xs, σ[i]? = some (some (.ref a)) ∧ H a = some (.lst xs) ∧ xs.length = ds.length := by
  obtain ⟨O, s0, n, nd, g, sl⟩ := t.ex
  obtain ⟨a, xs, h1, h2, h3, h4⟩ := sl.HW hi
  exact ⟨a, xs, h1, h3, h4.length⟩
theorem xH (i : Nat) {x : Str} {e : Expr} {te : TE} {vf : Aq → Option Sl} {p apos cpos : Pos} (he : PE X e te) (pv : Hh K te vf) (hK : X.K = K) (hN : X.N[i]? = some x := by rfl) (hv : Ig X.env.scope x := by first | exact Or.inl rfl | exact Or.inr (Or.inl rfl) | exact Or.inr (Or.inr rfl)) (hd : (x == ("__debug__" : Str)) = false := by decide)
    (hcd : (x == ("__classdict__" : Str)) = false := by decide) (hbase : attributeBase (.Name x p) "append" X.env (eval (.Name x p) X.env) = eval (.Name x p) X.env := by rfl)
    (hfew : ((backTo cpos (starEach [e] X.env)).all (fun x => !x.1) && (backToKw cpos (keywordEach [] X.env)).all (fun x => x.1.isSome)
      && decide ([e].length + ([] : List Keyword).length + (if ([] : List Keyword).isEmpty then 0 else 1) < 30)) = true := by rfl)
    (hline : (apos.endLine == cpos.line) = true := by rfl) (hs : starEach [e] X.env = (false, eval e X.env) :: starEach [] X.env := by rfl) (hplain : (backTo cpos (starEach [] X.env)).any (·.1) = false := by rfl)
    (hs2 : swapsWith (.Call (.Attribute (.Name x p) "append" apos) [e] [] cpos) none pos.line X.env = pure false := by rfl) :
    JS X K (.Expr (.Call (.Attribute (.Name x p) "append" apos) [e] [] cpos) pos) (Qf (Ss K "list" Xc (Eh i) (GQ te Gy))) (Od i vf) := ⟨by
  subst hK
  exact kY (qO PySem.F.plainAttrs_list PySem.F.slot_list_append PySem.F.type_list_append tE (M4 hN hv hd hcd) (Ek he Iv hs) hbase hfew hline hs hplain) hs2, by
  intro H0 O0 G σ H ρ o E ok s hf q
  obtain ⟨sl, e1, hf⟩ := Ar hf
  obtain ⟨d, e2, hf⟩ := Ar hf
  obtain ⟨sl2, e3, hf⟩ := Ar hf
  obtain ⟨ds, e4, hf⟩ := Ar hf
  rw [Zg e2] at e1
  rw [dY e4] at e3
  by_cases hc : fits ds.length = true
  · rw [if_pos hc] at hf
    cases hf
    obtain ⟨a, xs, h1, h2, h3⟩ := s.HW e3
    refine ⟨_, h1, .inl ⟨rfl, _, Bl.of h2⟩, ?_⟩
    refine pv H0 O0 G σ H ρ _ _ ok s e1 fun v H' s' sv => ?_
    obtain ⟨a', xs', h1', h2', h3', t', _⟩ := CP.write sv e3
    rw [h1] at h1'
    cases h1'
    exact ⟨a, xs', v, rfl, rfl, h2', by rw [h3']; exact of_decide_eq_true hc, q σ _ t'⟩
  · rw [if_neg hc] at hf
    cases hf⟩
theorem nW (i : Nat) {x : Str} {e ix : Expr} {te ti : TE} {fi : PF} {vf : Aq → Option Sl} {p spos : Pos} (he : PE X e te) (pv : Hh K te vf) (hi : JE X K ix ti fi) (hN : X.N[i]? = some x := by rfl) (hv : Ig X.env.scope x := by first | exact Or.inl rfl | exact Or.inr (Or.inl rfl) | exact Or.inr (Or.inr rfl)) (hd : (x == ("__debug__" : Str)) = false := by decide)
    (hcd : (x == ("__classdict__" : Str)) = false := by decide)
    (ha : ∀ v, assign (.Subscript (.Name x p) ix spos) X.env v = (do
      let ov ← holding [v] (eval (.Name x p) X.env)
      let iv ← holding [v, ov] (eval ix X.env)
      standAt spos
      holding [v, ov, iv] (setItem ov iv v)
      release [v, ov, iv] []) := by intro _; rfl)
    (hs : swapsWithSole [.Subscript (.Name x p) ix spos] e pos.line X.env = pure false := by rfl) (hw : swappedStores [.Subscript (.Name x p) ix spos] e X.env = pure none := by rfl)
    (h1 : (assignEach [.Subscript (.Name x p) ix spos] X.env).map (·.2) = [assign (.Subscript (.Name x p) ix spos) X.env] := by rfl) :
    JS X K (.Assign [.Subscript (.Name x p) ix spos] e pos) (Gg te (Ra (Eh i) ti Qe)) (Kg i fi vf) := ⟨lG he (sY (M4 hN hv hd hcd) hi.pe set_list ha) hs hw h1, by
  intro H0 O0 G σ H ρ o E ok s hf q
  obtain ⟨sl, e1, hf⟩ := Ar hf
  obtain ⟨d, e2, hf⟩ := Ar hf
  obtain ⟨kd, e5, hf⟩ := Ar hf
  obtain ⟨k, e6, hf⟩ := Ar hf
  obtain ⟨sl2, e3, hf⟩ := Ar hf
  obtain ⟨ds, e4, hf⟩ := Ar hf
  obtain ⟨j, e7, hf⟩ := Ar hf
  rw [Zg e2] at e1
  rw [dY e4] at e3
  cases hf
  refine pv H0 O0 G σ H ρ _ _ ok s e1 fun v H' s' sv => ?_
  obtain ⟨a, xs, h1, h2, h3⟩ := sv.str.HW e3
  refine ⟨_, h1, ?_⟩
  refine sv.str.R5 hi.pu ok e5 fun vi H2 s2 t2 ri => ?_
  obtain ⟨a', xs', h1', h2', h3', _, t'⟩ := CP.write (sv.grow s2) e3
  rw [h1] at h1'
  cases h1'
  cases ri with
  | int m => cases e6; exact ⟨a, xs', _, j, rfl, rfl, h2', by rw [h3']; exact e7, q σ _ (t' j)⟩
  | _ => cases e6⟩
end
def HF (m : Nat) (ds : List D) : Aq := ds.map .sh ++ List.replicate (m - ds.length) .no
def outD : Out → Option D
  | .rt d => some d
  | .rl ds => some (.list ds)
  | .rn dss => some (.list (dss.map .list))
  | .rp ds d => some (.tuple [.list ds, d])
  | .nx _ => some .none
  | _ => none
def AGi : Out → Option (List D)
  | .rl ds => some ds
  | _ => none
def Ba (n m : Nat) (F : Am) : List D → Option D := fun ds => if ds.length = n then (F (HF m ds)).bind outD else none
def Ci (n m : Nat) (F : Am) : List D → Option (List D) := fun ds => if ds.length = n then (F (HF m ds)).bind AGi else none
theorem Br (n m : Nat) (F : Am) : Ht n (Ba n m F) := fun ds a h => by
  unfold Ba at h
  by_cases hc : ds.length = n
  · exact hc
  · rw [if_neg hc] at h; cases h
theorem Eo (n m : Nat) (F : Am) : Ht n (Ci n m F) := fun ds a h => by
  unfold Ci at h
  by_cases hc : ds.length = n
  · exact hc
  · rw [if_neg hc] at h; cases h
section
variable {P : Program} {w : World} {K : Frag} {mg : Str → Option Value} {base : Heap}
theorem qU {H : Hp} {O : List Addr} {vs : List V} {ds : List D} (r : BP K (Ah O H) vs ds) (k : Nat) : Slots K (Ah O H) H (vs.map some ++ List.replicate k none) (ds.map .sh ++ List.replicate k .no) [] := by
  induction r using BP.rec (motive_1 := fun _ _ _ => True) with
  | non => trivial
  | bl => trivial
  | int => trivial
  | str => trivial
  | lst => trivial
  | tup => trivial
  | dic => trivial
  | obj => trivial
  | nil =>
    simp only [List.map_nil, List.nil_append]
    induction k with
    | zero => exact .nil
    | succ k ih => exact .no ih
  | cons q _ _ ih => exact .sh q ih
theorem Nv {H : Hp} {O : List Addr} {vs : List V} {ds : List D} (r : BP K (Ah O H) vs ds) (N : List Str) : CP K H O (Ah O H) (start N vs) H (HF N.length ds) := by
  refine ⟨[], Ao.refl _, (fun a h => by cases h), List.nodup_nil, ?_, ?_⟩
  · rw [List.append_nil]; exact Ao.refl _
  · rw [List.append_nil]
    unfold start HF
    rw [r.length]
    exact qU r _
theorem Def.Cy {x : Str} {st : Stmt} {N ps : List Str} {k n m : Nat} {F : Am} {fn : List D → Option D} (hfn : fn = Ba n m F) (D : Def K mg x st ps) (S : Bk N ps (BL st)) (hn : ps.length = n) (hm : N.length = m) (hb : ∀ (f : Addr) (cdv : Value) (A : Around) (outer : List Env) (s : Shared) (H : Hp) (E : XK), CV k (A.deeper (envOfC x (BL st) s.heap.objs.size f cdv)) →
      ∃ t, Gu (Dh GZ P w K mg base N x (BL st) f cdv A outer s H E).Ds K (Df st) t F) : Callee P w K mg base (k + 1) x ps (BR K n fn) := by
  subst hfn hm
  refine D.ok S (fun vs H Q E h => by rw [h.1, hn]) fun f cdv A outer s H vs Q E hr h => ?_
  obtain ⟨t, j⟩ := hb f cdv A outer s H E hr
  refine ⟨t, j.pe, ?_⟩
  obtain ⟨hl, O, ds, d, ok, r, hf, q⟩ := h
  have hl2 : ds.length = n := by rw [← r.length]; exact hl
  unfold Ba at hf
  rw [if_pos hl2] at hf
  obtain ⟨o, e1, hf⟩ := Ar hf
  refine j.pu H O (Ah O H) _ H _ o _ ok (Nv r N) e1 ?_
  cases o with
  | nx ρ => cases hf; exact fun σ' H' t' => q .non H' t'.same .non
  | rt d' => cases hf; exact fun v H' s' r' => q v H' s' r'
  | rl es =>
    cases hf
    refine fun a xs H' s' hn' ha r' => q (.ref a) H' s' ?_
    exact .lst (Bl.of (by rw [Cm (ok.fresh hn')]; exact ha)) (r'.mono (DY fun b hb => BZ hb))
  | rn ess =>
    cases hf
    refine fun a ps H' s' nd' hn' ha r' => q (.ref a) H' s' ?_
    refine .lst (Bl.of (by rw [Cm (ok.fresh (hn' a CW))]; exact ha)) (r'.full (DY fun b hb => By hb) fun b hb o e => ?_)
    rw [Cm (ok.fresh (hn' b (BZ hb)))]
    exact e
  | rp es d2 =>
    cases hf
    refine fun p a xs v H' s' ha0 hp0 ha hp r' rv => q (.ref p) H' s' ?_
    have sb : Ao (Ah (a :: O) H') (Ah O H') := DY fun b hb => BZ hb
    exact .tup (Dt.of (by rw [Cm (ok.fresh hp0)]; exact hp)) (.cons (.lst (Bl.of (by rw [Cm (ok.fresh ha0)]; exact ha)) (r'.mono sb)) (.cons (rv.mono sb) .nil))
  | ro d2 ρ2 => cases hf
  | bk ρ => cases hf
  | ct ρ => cases hf
theorem Def.Hc {x : Str} {st : Stmt} {N ps : List Str} {k n m : Nat} {F : Am} {fn : List D → Option (List D)} (hfn : fn = Ci n m F) (D : Def K mg x st ps) (S : Bk N ps (BL st)) (hn : ps.length = n) (hm : N.length = m) (hb : ∀ (f : Addr) (cdv : Value) (A : Around) (outer : List Env) (s : Shared) (H : Hp) (E : XK), CV k (A.deeper (envOfC x (BL st) s.heap.objs.size f cdv)) →
      ∃ t, Gu (Dh GZ P w K mg base N x (BL st) f cdv A outer s H E).Ds K (Df st) t F) : Callee P w K mg base (k + 1) x ps (Bw K n fn) := by
  subst hfn hm
  refine D.ok S (fun vs H Q E h => by rw [h.1, hn]) fun f cdv A outer s H vs Q E hr h => ?_
  obtain ⟨t, j⟩ := hb f cdv A outer s H E hr
  refine ⟨t, j.pe, ?_⟩
  obtain ⟨hl, O, ds, d, ok, r, hf, q⟩ := h
  have hl2 : ds.length = n := by rw [← r.length]; exact hl
  unfold Ci at hf
  rw [if_pos hl2] at hf
  obtain ⟨o, e1, hf⟩ := Ar hf
  refine j.pu H O (Ah O H) _ H _ o _ ok (Nv r N) e1 ?_
  cases o with
  | rl es => cases hf; exact fun a xs H' s' hn' ha r' => q a xs H' s' hn' ha r'
  | rn ess => cases hf
  | rp _ _ => cases hf
  | ro d e => cases hf
  | nx ρ => cases hf
  | rt d' => cases hf
  | bk ρ => cases hf
  | ct ρ => cases hf
end
end L2
namespace L2
open PySem PySem.Spec PyProof.Rows
section
variable {X : Cx} {K : Frag}
def Rn (f : BW) : Aq → Option Sl := fun ρ => (f (full ρ)).bind fun ds => if GJ ds = true then some (.sh (.list ds)) else none
theorem ACq {te : TE} {fl : BW} (h : Le K te fl) : Hh K te (Rn fl) := by
  intro H0 O0 G σ H ρ s Q ok t hf q
  obtain ⟨d, e1, hf⟩ := Ar hf
  by_cases hc : GJ d = true
  · rw [if_pos hc] at hf
    cases hf
    have ⟨o1, e2⟩ := t.HR ok
    obtain ⟨O, s0, n, nd, g, sl⟩ := t.ex
    have okA := Jj ok s0 sl
    refine h O0 σ H (full ρ) d Q o1 e2 e1 fun a xs H' s' hn ha r => ?_
    have sl' := sl.mono (Eg (O := O0 ++ O) s') fun b _ o e => s' b o e
    have na : a ∉ O0 ++ O := okA.fresh hn
    refine q (.ref a) H' s' ⟨O, [], s0.trans s', n, nd, g.trans (Eg s'), sl', rfl, .lst (Bl.of (by rw [show O0 ++ ([] ++ O) = O0 ++ O from rfl, Cm na]; exact ha)) ?_⟩
    have := Yp (K := K) (O0 := a :: O0) (O := O) sl'.mem r hc
    exact this.mono (DY fun b hb => BZ hb)
  · rw [if_neg hc] at hf
    cases hf
end
section
variable {X : Cx} {K : Frag} {tg elt iter : Expr} {ifs : List Expr} {scope : Scope} {wi : TI} {g : TG} {tc : TT} {te : TE} {fi : BW} {bd : D → Bf → Option Bf} {pt : PB} {fe : PF}
theorem WT {pos spos py : Pos} {i : Nat} {y : Str} (vk : BW → Aq → Option Sl) (hvk : ∀ {te : TE} {fl : BW}, Le K te fl → Hh K te (vk fl)) (own : List Str) (fv : List (Nat × Str)) (hN : X.N.Nodup) (hy : X.N[i]? = some y) (hx : Loc X.env.scope y) (hc : X.calm = true) (hi : JI X K tg iter wi fi) (fo : Jv X scope fv) (gk : M7 own.length g) (bg : ∀ fp pins s H, JG (Di X (own ++ fv.map (·.2)) scope (Ep X.env scope.names []) fp pins s H) K tg g bd) (bt : ∀ fp pins s H, Tw (Di X (own ++ fv.map (·.2)) scope (Ep X.env scope.names []) fp pins s H) K ifs tc pt) (be : ∀ fp pins s H, JE (Di X (own ++ fv.map (·.2)) scope (Ep X.env scope.names []) fp pins s H) K elt te fe) (kind : scope.kind = .function) (cell : ∀ y ∈ scope.names, y.2 ≠ .cell) (names : ∀ x ∈ scope.names, x.2 = .local → scope.names.lookup x.1 = some .local) (free : freeOk X scope = true) (hsw : swapsWith (.ListComp elt [⟨tg, iter, ifs, 0⟩] scope pos) (some (.Name y py)) spos.line X.env = pure true) (hs : ∀ x, foldedSetIterable iter X.env x = pure x := by intro _; rfl) (hf : X.fn y = true ∨ X.env.scope.names.lookup y = some .local := by first | exact Or.inl rfl | exact Or.inr rfl) :
    JS X K (.Assign [.Name y py] (.ListComp elt [⟨tg, iter, ifs, 0⟩] scope pos) spos) (Gg (NP wi g tc te own.length fv) (El i)) (Ay i (vk (CT fi bd pt fe own.length (fv.map (·.1))))) :=
  Qm (xG own fv hN hy hx hc hi.pe fo gk (fun fp pins s H => (bg fp pins s H).pe) (fun fp pins s H => (bt fp pins s H).pe) (fun fp pins s H => (be fp pins s H).pe) kind cell names free hsw hs hf)
    (hvk (qR hi.pu (bg [] [] X.s₀ X.H₀).pu (bt [] [] X.s₀ X.H₀).pu (be [] [] X.s₀ X.H₀).pu _ _))
def Gv (f : BW) : Aq → Option Sl := vS (Aw f)
theorem zP {te : TE} {fl : BW} (h : Le K te fl) : Hh K te (Gv fl) := by
  refine PX ?_
  intro O σ H ρ d Q ok er hf q
  have hf' : (fl ρ).map PyData.list = some d := hf
  cases e1 : fl ρ with
  | none => rw [e1] at hf'; cases hf'
  | some ds =>
    rw [e1] at hf'
    cases hf'
    refine h O σ H ρ ds Q ok er e1 fun a xs H' s hn ha r => q _ H' s ?_
    have na : a ∉ O := ok.fresh hn
    exact .lst (Bl.of (by rw [Cm na]; exact ha)) (r.mono (DY fun b hb => BZ hb))
end
section
variable {X : Cx} {K : Frag} {pos : Pos}
theorem AHJ (i : Nat) {x : Str} {e : Expr} {te : TE} {f : PF} {p apos cpos : Pos} (he : JE X K e te f) (hK : X.K = K) (hN : X.N[i]? = some x := by rfl) (hv : Ig X.env.scope x := by first | exact Or.inl rfl | exact Or.inr (Or.inl rfl) | exact Or.inr (Or.inr rfl)) (hd : (x == ("__debug__" : Str)) = false := by decide)
    (hcd : (x == ("__classdict__" : Str)) = false := by decide) (hbase : attributeBase (.Name x p) "append" X.env (eval (.Name x p) X.env) = eval (.Name x p) X.env := by rfl)
    (hfew : ((backTo cpos (starEach [e] X.env)).all (fun x => !x.1) && (backToKw cpos (keywordEach [] X.env)).all (fun x => x.1.isSome)
      && decide ([e].length + ([] : List Keyword).length + (if ([] : List Keyword).isEmpty then 0 else 1) < 30)) = true := by rfl)
    (hline : (apos.endLine == cpos.line) = true := by rfl) (hs : starEach [e] X.env = (false, eval e X.env) :: starEach [] X.env := by rfl) (hplain : (backTo cpos (starEach [] X.env)).any (·.1) = false := by rfl)
    (hs2 : swapsWith (.Call (.Attribute (.Name x p) "append" apos) [e] [] cpos) none pos.line X.env = pure false := by rfl) :
    JS X K (.Expr (.Call (.Attribute (.Name x p) "append" apos) [e] [] cpos) pos) (Qf (Ss K "list" Xc (Eh i) (GQ te Gy))) (Od i (vS f)) := xH i he.pe (PX he.pu) hK hN hv hd hcd hbase hfew hline hs hplain hs2
theorem uM (i : Nat) {x : Str} {e ix : Expr} {te ti : TE} {f fi : PF} {p spos : Pos} (he : JE X K e te f) (hi : JE X K ix ti fi) (hN : X.N[i]? = some x := by rfl) (hv : Ig X.env.scope x := by first | exact Or.inl rfl | exact Or.inr (Or.inl rfl) | exact Or.inr (Or.inr rfl)) (hd : (x == ("__debug__" : Str)) = false := by decide)
    (hcd : (x == ("__classdict__" : Str)) = false := by decide)
    (ha : ∀ v, assign (.Subscript (.Name x p) ix spos) X.env v = (do
      let ov ← holding [v] (eval (.Name x p) X.env)
      let iv ← holding [v, ov] (eval ix X.env)
      standAt spos
      holding [v, ov, iv] (setItem ov iv v)
      release [v, ov, iv] []) := by intro _; rfl)
    (hs : swapsWithSole [.Subscript (.Name x p) ix spos] e pos.line X.env = pure false := by rfl) (hw : swappedStores [.Subscript (.Name x p) ix spos] e X.env = pure none := by rfl)
    (h1 : (assignEach [.Subscript (.Name x p) ix spos] X.env).map (·.2) = [assign (.Subscript (.Name x p) ix spos) X.env] := by rfl) :
    JS X K (.Assign [.Subscript (.Name x p) ix spos] e pos) (Gg te (Ra (Eh i) ti Qe)) (Kg i fi (vS f)) := nW i he.pe (PX he.pu) hi hN hv hd hcd ha hs hw h1
end
def WD (K : Frag) : Sp := fun vs H Q _ => ∃ (a : Addr) (ns : List Int), vs = [.ref a] ∧ Bl K H a (ns.map V.int) ∧ ns.length ≤ 63 ∧ ∀ H', Q (.bl true) H'
theorem qK {K : Frag} {H : Hp} : ∀ ns : List Int, BP K H (ns.map V.int) (ns.map PyData.int)
  | [] => .nil
  | n :: r => .cons (.int n) (qK r)
theorem Callee.yO {P : Program} {w : World} {K : Frag} {mg : Str → Option Value} {base : Heap} {k : Nat} {x : Str} {ps : List Str} {f : List D → Option D} (C : Callee P w K mg base k x ps (BR K 1 f)) (h : ∀ ns : List Int, ns.length ≤ 63 → f [.list (ns.map PyData.int)] = some (.bool true)) : Callee P w K mg base k x ps (WD K) :=
  C.imp fun vs H Q E ⟨a, ns, e, hq, hl, q⟩ => by
    subst e
    refine ⟨rfl, [], [.list (ns.map PyData.int)], .bool true, Cd.nil, ?_, h ns hl, fun v H' s' r => ?_⟩
    · rw [AGl]
      exact .cons (.lst hq (qK ns)) .nil
    · cases r
      exact q H'
end L2
namespace L2
open PySem PySem.Spec PyProof.Rows
def JV : List D → Option (List Int)
  | [] => some []
  | .int i :: r => (JV r).bind fun ns => some (i :: ns)
  | _ => none
theorem V4 {K : Frag} {H : Hp} {vs : List V} {ds : List D} {ns : List Int} (r : BP K H vs ds) (h : JV ds = some ns) : vs = ns.map V.int := by
  induction ds generalizing vs ns with
  | nil => cases r; cases h; rfl
  | cons d ds ih =>
    cases r with
    | cons r t =>
      cases r with
      | int b =>
        obtain ⟨bs, e, h⟩ := Ar h
        cases h
        rw [ih t e]
        rfl
      | _ => cases h
theorem Vk (ns : List Int) : JV (ns.map PyData.int) = some ns := by
  induction ns with
  | nil => rfl
  | cons n r ih => simp only [List.map_cons, JV, ih]; rfl
def AJE : D → Option (List D)
  | .list ds => some ds
  | .tuple ds => some ds
  | _ => none
def Nz (neg : Bool) (x l : D) : Option D := (Ij x).bind fun i => (AJE l).bind fun ds => (JV ds).bind fun ns => some (.bool (if neg then !(ns.any fun n => n == i) else ns.any fun n => n == i))
theorem wW (i : Int) (ns : List Int) : Xf (.int i) (ns.map V.int) = ns.any fun n => n == i := by
  unfold Xf
  rw [List.any_map]
  rfl
theorem qT (ns : List Int) : (ns.map V.int).all MT = true := by
  rw [List.all_map]
  exact List.all_eq_true.mpr fun _ _ => rfl
section
variable {X : Cx} {K : Frag}
theorem AG6 {neg : Bool} : NQ K (dM K neg) (Nz neg) := by
  intro O H x y a b d Q ok ra rb hg q
  obtain ⟨i, e1, hg⟩ := Ar hg
  obtain ⟨ds, e2, hg⟩ := Ar hg
  obtain ⟨ns, e3, hg⟩ := Ar hg
  cases hg
  cases ra with
  | int j =>
    cases e1
    cases rb with
    | lst h r =>
      cases e2
      have e4 := V4 r e3
      subst e4
      exact ⟨_, _, rfl, .inl (Dd.seq h), rfl, qT ns, by rw [wW]; exact q _ H (Ao.refl H) (.bl _)⟩
    | tup h r =>
      cases e2
      have e4 := V4 r e3
      subst e4
      exact ⟨_, _, rfl, .inr (Dd.Li h), rfl, qT ns, by rw [wW]; exact q _ H (Ao.refl H) (.bl _)⟩
    | _ => cases e2
  | _ => cases e1
theorem AFK (hK : X.K = K) : FZ X K (compareOp .NotIn) (dM K true) (Nz true) := ⟨by subst hK; exact ADq, AG6⟩
def Ua : List D → Option D
  | [.list ds] => (JV ds).bind fun ns => some (.int ns.sum)
  | _ => none
theorem ADT (hh : X.A.handled = none) : Hj X (.builtin "sum") (fun xs H Q => ∃ (a : Addr) (ns : List Int), xs = [.ref a] ∧ Bl X.K H a (ns.map V.int) ∧ Q (.int ns.sum) H) := by
  intro pins s σ H xs us Q I r h
  obtain ⟨a, ns, rfl, hq, q⟩ := h
  obtain ⟨u, rfl, rx⟩ := vals1 r
  cases rx
  obtain ⟨its, rv, pl, hz⟩ := I.list hq
  have ia : IntsAre its ns := intsAre_of rv
  have hl := pl.isList
  obtain ⟨xs, hxs⟩ := ia.allInts.items
  have hn : xs.toList.map (·.1) = ns := by
    rw [← nums_intItems, ← hxs]
    exact ia.numsOf
  rw [hxs] at hl
  refine sum_intListG hh hl fun h' tk t' hk => ?_
  rw [preSum_eq, List.take_of_length_le (by simp), hn]
  exact ⟨.int _, H, I.kept (t' := tk) hk, ⟨_, rfl⟩, q⟩
theorem xX (hK : X.K = K) (hh : X.A.handled = none) : Mj X K (.builtin "sum") (fun xs H Q => ∃ (a : Addr) (ns : List Int), xs = [.ref a] ∧ Bl K H a (ns.map V.int) ∧ Q (.int ns.sum) H) Ua := ⟨by subst hK; exact ADT hh, by
  intro O H vs ds d Q ok r hg q
  unfold Ua at hg
  split at hg
  · rename_i es
    obtain ⟨ns, e, hg⟩ := Ar hg
    cases hg
    obtain ⟨v, rfl, r1⟩ := rep1 r
    cases r1 with
    | lst h r' =>
      have e2 := V4 r' e
      subst e2
      exact ⟨_, ns, rfl, Dd.seq h, q _ H (Ao.refl H) (.int _)⟩
  · cases hg⟩
theorem AFT {n : Nat} {acc : Array Value} {a : Int} (h : ItemsOf (fun i v => ∃ t, v = Value.int (a + i * 1) t) acc n) : Vals ((List.range n).map fun i : Nat => V.int (a + (i : Nat))) acc.toList := by
  obtain ⟨hs, hv⟩ := h
  have key : ∀ (l : List Value) (k : Nat), (∀ j v, l[j]? = some v → ∃ t, v = Value.int (a + ((k + j : Nat) : Int) * 1) t) → Vals ((List.range' k l.length).map fun i : Nat => V.int (a + (i : Nat))) l := by
    intro l
    induction l with
    | nil => intro k _; exact .nil
    | cons u r ih =>
      intro k hk
      rw [List.length_cons, List.range'_succ, List.map_cons]
      refine .cons ?_ (ih (k + 1) fun j v hj => ?_)
      · obtain ⟨t, e⟩ := hk 0 u rfl
        exact ⟨t, by rw [e]; simp⟩
      · obtain ⟨t, e⟩ := hk (j + 1) v (by simpa using hj)
        refine ⟨t, ?_⟩
        rw [e]
        congr 3
        omega
  have := key acc.toList 0 fun j v hj => by
    have := hv j v (by simpa using hj)
    simpa using this
  rw [Array.length_toList, hs, ← List.range_eq_range'] at this
  exact this
theorem ABX : Hj X (.type "range") (fun xs H Q => ∃ j : Int, xs = [.int j] ∧ ∀ p, H p = none → Q (.ref p) (upd H p (.rng 0 j))) := by
  intro pins s σ H xs us Q I r h
  obtain ⟨j, rfl, q⟩ := h
  obtain ⟨u, rfl, rx⟩ := vals1 r
  obtain ⟨t, rfl⟩ := rx
  refine call_range_1 ⟨.ref s.heap.objs.size, _, I.laid (o := .rng 0 j) (fun b ob q => Heap.get?_push_of_some _ q) (Nat.le_refl _) ?_, rfl, q _ (I.hok.fresh (Nat.le_refl _))⟩
  exact ⟨_, _, _, Heap.get?_push_size _ rfl⟩
theorem ADi (hh : X.A.handled = none) : Hj X (.type "list") (fun xs H Q => ∃ (p : Addr) (j : Int), xs = [.ref p] ∧ H p = some (.rng 0 j) ∧ -(2 ^ 62) ≤ j ∧ j < 2 ^ 62 ∧ j.toNat < sizeLine ∧ ∀ l, H l = none → Q (.ref l) (upd H l (.lst ((List.range j.toNat).map fun i : Nat => V.int (0 + (i : Nat)))))) := by
  intro pins s σ H xs us Q I r h
  obtain ⟨p, j, rfl, hp, h1, h2, h3, q⟩ := h
  obtain ⟨u, rfl, rx⟩ := vals1 r
  cases rx
  obtain ⟨t, u, v, e⟩ := I.hok p _ hp
  have hsz : sizeLine = 16777216 := sizeLine_eq
  refine call_list_range (n := j.toNat) hh (show IsRange s.heap p 0 j 1 t u v from e) (small_one (by decide) (by decide) h1 h2) (by rw [rangeSize_one]; split <;> omega) (by omega) fun h' tk acc' c' hk hS' hacc => ?_
  have hv := AFT hacc
  refine ⟨.ref s.heap.objs.size, _, I.laid (t' := tk) (o := .lst ((List.range j.toNat).map fun i : Nat => V.int (0 + (i : Nat)))) hk (Nat.le_refl _) ?_, rfl, q _ (I.hok.fresh (Nat.le_refl _))⟩
  exact ⟨by simp; omega, acc'.toList, c', hv, hS'⟩
theorem AHq {H : Hp} (n : Nat) : BP K H ((List.range n).map fun i : Nat => V.int (0 + (i : Nat))) (Gm 0 n) := by
  unfold Gm
  generalize List.range n = l
  induction l with
  | nil => exact .nil
  | cons a r ih => exact .cons (.int _) ih
def YW (r : BW) : BW := fun ρ => (r ρ).bind fun ds => (Em ds).bind fun es => if fits es.length = true then some es else none
theorem ABT {a : Expr} {ta : TA} {r : BW} {p p2 pos pos2 : Pos} (hh : X.A.handled = none) (hg : Gl X "list") (hm : X.mg "list" = none) (hg2 : Gl X "range") (hm2 : X.mg "range" = none) (ha : JA X K [a] ta r) (he : starEach [a] X.env = (false, eval a X.env) :: starEach [] X.env := by rfl) (hpl : (backTo pos2 (starEach [] X.env)).any (·.1) = false := by rfl) (he2 : starEach [.Call (.Name "range" p2) [a] [] pos2] X.env = (false, eval (.Call (.Name "range" p2) [a] [] pos2) X.env) :: starEach [] X.env := by rfl) (AAe : (backTo pos (starEach [] X.env)).any (·.1) = false := by rfl) :
    JL X K (.Call (.Name "list" p) [.Call (.Name "range" p2) [a] [] pos2] [] pos) (Lg (fun xs H Q => ∃ (p : Addr) (j : Int), xs = [.ref p] ∧ H p = some (.rng 0 j) ∧ -(2 ^ 62) ≤ j ∧ j < 2 ^ 62 ∧ j.toNat < sizeLine ∧ ∀ l, H l = none → Q (.ref l) (upd H l (.lst ((List.range j.toNat).map fun i : Nat => V.int (0 + (i : Nat))))))
      (GQ (Lg (fun xs H Q => ∃ j : Int, xs = [.int j] ∧ ∀ p, H p = none → Q (.ref p) (upd H p (.rng 0 j))) ta) Gy)) (YW r) :=
  ⟨X8 (ADi hh) hg hm (by rfl) (Ek (X8 ABX hg2 hm2 (by rfl) ha.pe (by decide) (by decide) he hpl) Iv he2) (by decide) (by decide) he2 AAe, by
  intro O σ H ρ es Q ok er hf q
  obtain ⟨ds, e1, hf⟩ := Ar hf
  obtain ⟨fs, e2, hf⟩ := Ar hf
  by_cases hc : fits fs.length = true
  · rw [if_pos hc] at hf
    obtain rfl : fs = es := Option.some.inj hf
    refine ha.pu O σ H ρ ds _ ok er e1 fun vs H1 s1 r1 => ?_
    unfold Em at e2
    split at e2
    · rename_i j
      obtain ⟨v, rfl, rv⟩ := rep1 r1
      cases rv
      by_cases hj : -(2 ^ 62) ≤ j ∧ j < 2 ^ 62
      · rw [if_pos hj] at e2
        obtain rfl : Gm 0 j.toNat = fs := Option.some.inj e2
        rw [wD] at hc
        refine ⟨j, rfl, fun pr hpr => ?_⟩
        refine ⟨pr, j, rfl, Dz, hj.1, hj.2, of_decide_eq_true hc, fun l hl => ?_⟩
        have sn : Ao H1 (upd H1 pr (.rng 0 j)) := Ao.new hpr
        have s2 := s1.trans sn
        exact q l _ _ (s2.trans (Ao.new hl)) (s2.free hl) Dz (AHq _)
      · rw [if_neg hj] at e2
        cases e2
    · cases e2
  · rw [if_neg hc] at hf
    cases hf⟩
def lD (i : Nat) (fi : PF) : Am := fun ρ => (fi (full ρ)).bind fun kd => (Ij kd).bind fun k => (ρ[i]?).bind fun s' => (Lh s').bind fun ds => if 0 ≤ k ∧ k < ds.length ∧ fits ds.length = true then some (.nx (ρ.set i (.ow (ds.eraseIdx k.toNat)))) else none
theorem BP.eraseIdx {H : Hp} : ∀ {xs : List V} {ds : List D} (k : Nat), BP K H xs ds → BP K H (xs.eraseIdx k) (ds.eraseIdx k)
  | _, _, _, .nil => .nil
  | _, _, 0, .cons _ b => b
  | _, _, k + 1, .cons a b => .cons a (BP.eraseIdx k b)
theorem ACr (i : Nat) {x : Str} {e : Expr} {te : TE} {f : PF} {p apos cpos pos : Pos} (he : JE X K e te f) (hK : X.K = K) (hN : X.N[i]? = some x := by rfl) (hv : Ig X.env.scope x := by first | exact Or.inl rfl | exact Or.inr (Or.inl rfl) | exact Or.inr (Or.inr rfl)) (hd : (x == ("__debug__" : Str)) = false := by decide)
    (hcd : (x == ("__classdict__" : Str)) = false := by decide) (hbase : attributeBase (.Name x p) "pop" X.env (eval (.Name x p) X.env) = eval (.Name x p) X.env := by rfl)
    (hfew : ((backTo cpos (starEach [e] X.env)).all (fun x => !x.1) && (backToKw cpos (keywordEach [] X.env)).all (fun x => x.1.isSome)
      && decide ([e].length + ([] : List Keyword).length + (if ([] : List Keyword).isEmpty then 0 else 1) < 30)) = true := by rfl)
    (hline : (apos.endLine == cpos.line) = true := by rfl) (hs : starEach [e] X.env = (false, eval e X.env) :: starEach [] X.env := by rfl) (hplain : (backTo cpos (starEach [] X.env)).any (·.1) = false := by rfl)
    (hs2 : swapsWith (.Call (.Attribute (.Name x p) "pop" apos) [e] [] cpos) none pos.line X.env = pure false := by rfl) :
    JS X K (.Expr (.Call (.Attribute (.Name x p) "pop" apos) [e] [] cpos) pos) (Qf (Ss K "list" nU (Eh i) (GQ te Gy))) (lD i f) := ⟨by
  subst hK
  exact kY (qO PySem.F.plainAttrs_list PySem.F.slot_list_pop PySem.F.type_list_pop AAV (M4 hN hv hd hcd) (Ek he.pe Iv hs) hbase hfew hline hs hplain) hs2, by
  intro H0 O0 G σ H ρ o E ok s hf q
  obtain ⟨kd, e1, hf⟩ := Ar hf
  obtain ⟨k, e2, hf⟩ := Ar hf
  obtain ⟨sl2, e3, hf⟩ := Ar hf
  obtain ⟨ds, e4, hf⟩ := Ar hf
  rw [dY e4] at e3
  by_cases hc : 0 ≤ k ∧ k < ds.length ∧ fits ds.length = true
  · rw [if_pos hc] at hf
    cases hf
    obtain ⟨a0, xs0, h10, h20, h30⟩ := s.HW e3
    refine ⟨_, h10, .inl ⟨rfl, _, Bl.of h20⟩, ?_⟩
    refine s.R5 he.pu ok e1 fun v H1 s1 t1 rv => ?_
    obtain ⟨O, s0, n, nd, g, sl⟩ := t1.ex
    obtain ⟨a, xs, h1, h2, h3, h4⟩ := sl.HW e3
    rw [h10] at h1
    cases h1
    have hl := h4.length
    have hsz : sizeLine = 16777216 := sizeLine_eq
    have hfit : ds.length < sizeLine := of_decide_eq_true hc.2.2
    cases rv with
    | int m =>
      obtain rfl : m = k := Option.some.inj e2
      have hkl : m.toNat < xs.length := by omega
      refine ⟨a0, xs, m, m.toNat, xs[m.toNat], rfl, rfl, h3, by omega, by omega, seqIndex_of hc.1 (by omega), by simp [hkl], q σ _ ⟨O, fun b o e => ?_, n, nd, ?_, ?_⟩⟩
      · rw [Bs (Ey e (n a0 h2))]
        exact s0 b o e
      · rw [M8 (by simp [h2])]
        exact g
      · rw [M8 (by simp [h2])]
        exact sl.write (h4.eraseIdx _) nd e3 h10
    | _ => cases e2
  · rw [if_neg hc] at hf
    cases hf⟩
end
end L2
namespace L2
open PySem PySem.Spec PyProof.Rows
def rA (r : BW) : BW := BX O7 r
end L2
namespace L2
open PySem PySem.Spec PyProof.Rows
section
variable {X : Cx} {K : Frag} {tg : Expr}
def AH0 : List D → Option (List D)
  | [.list ds] => some ds.reverse
  | _ => none
end
def fL (lo c : Int) (n : Nat) : It := ⟨fun i _ => i < n, fun i H x H' => H' = H ∧ x = .int (lo + i * c), fun i _ => n ≤ i⟩
theorem AAk {P : Program} {w : World} {K : Frag} {tg : Expr} (it : Addr) (lo c : Int) (n : Nat) : Turn P w K tg (fL lo c n) [it] it (fun i h => IsRangeIter h it (lo + (i : Nat) * c) ((n : Int) - (i : Nat)) c) where
  mem := by simp
  obj := fun i h st b hb => by
    have e : b = it := by simpa using hb
    subst e
    exact ⟨_, st, fun v z => by
      have z' : Data.fields _ = Data.cell v := z
      cases z'⟩
  keep := fun i h h' st k => k it (by simp) _ st
  item := by
    intro X hP hw hK hc i pins s σ H E I hf st hg
    subst hP hw hK
    obtain ⟨f0, f1, f2, f3, f4, f5⟩ := hf it (by simp)
    have W := Walks.range (prog := X.prog) (w := X.w) (I.ok.hd hc) it lo c n
    refine W.item i s _ _ hg st fun v h' tk hv st' kk => ?_
    obtain ⟨t, rfl⟩ := hv
    have I1 : Inv X pins σ H { s with heap := h', toks := tk } := I.turned (fun b o hb e => kk b o (by simpa using hb) e) f0 f1 f3 f4 f5
    exact ⟨_, rfl, Xx (s := { s with heap := h', toks := tk }) (n := "range_iterator") st' rfl rfl (by decide) ⟨.int (lo + i * c), H, I1, ⟨t, rfl⟩, ⟨rfl, rfl⟩, st', fun b hb => (hf b hb).1⟩⟩
  done := by
    intro X hP hw hK hc i pins s σ H E I hf st hg
    subst hP hw hK
    obtain ⟨f0, f1, f2, f3, f4, f5⟩ := hf it (by simp)
    exact wpAny_pyNext_range_end (I.ok.hd hc) st (by have : n ≤ i := hg; omega) fun h' eb => ⟨rfl, I.turned (t' := s.toks) (fun b o hb e => eb b o hb e) f0 f1 f3 f4 f5⟩
  self := fun _ _ _ _ _ st h => wpAny_pyIter_rangeiter st h
def Ou (lo c : Int) (n : Nat) : List D := (List.range n).map fun i => .int (lo + (i : Nat) * c)
def Ka (a b c : Int) : Nat := (Builtin.Range.rangeSize a b c).toNat
def RM : List D → Option (List D)
  | [.int a, .int b, .int c] => if 0 ≤ a ∧ a ≤ b ∧ b < 1000000 ∧ 1 ≤ c ∧ c < 1000000 then some (Ou a c (Ka a b c)) else none
  | _ => none
def pM (ta : TA) : TI := fun σ H R => ta σ H fun vs H1 => ∃ a b c : Int, vs = [.int a, .int b, .int c] ∧ (0 ≤ a ∧ a ≤ b ∧ b < 1000000 ∧ 1 ≤ c ∧ c < 1000000) ∧ R (fL a c (Ka a b c)) H1
theorem AJU {a b c : Int} (h : 0 ≤ a ∧ a ≤ b ∧ b < 1000000 ∧ 1 ≤ c ∧ c < 1000000) : Builtin.Range.small a b c = true := by
  have hs : Builtin.Range.rangeSize a b c ≤ 1000001 ∧ 0 ≤ Builtin.Range.rangeSize a b c := by
    unfold Builtin.Range.rangeSize
    rw [if_pos (by omega)]
    split
    · have q1 := Int.ediv_nonneg (a := b - a - 1) (b := c) (by omega) (by omega)
      have q2 := Int.ediv_le_self (a := b - a - 1) c (by omega)
      omega
    · omega
  unfold Builtin.Range.small
  rw [if_pos (show c > 0 by omega)]
  simp only [Builtin.Range.rangeFitsLong, Bool.and_eq_true, Bool.or_eq_true, decide_eq_true_eq, beq_iff_eq]
  omega
section
variable {X : Cx} {K : Frag} {tg : Expr}
theorem AEp {a b c : Expr} {ta : TA} {p pos : Pos} (hg : Gl X "range") (hm : X.mg "range" = none) (ha : PA X [a, b, c] ta) (hs : starEach [a, b, c] X.env = [(false, eval a X.env), (false, eval b X.env), (false, eval c X.env)] := by rfl) (hs2 : starEach [b, c] X.env = [(false, eval b X.env), (false, eval c X.env)] := by rfl) :
    PI X tg (.Call (.Name "range" p) [a, b, c] [] pos) (pM ta) := by
  intro pins s σ H R I h
  refine Call_ (Ox I hg hm boot_range (PyProof.Rows.callWith_type1 (Bg (ha pos pins s σ H _ I h) fun us s1 ⟨vs, H1, I1, r1, q1⟩ => ?_) (by rw [hs, hs2]) (by rw [hs2]; rfl)))
  obtain ⟨i, j, k, e, hb, q⟩ := q1
  subst e
  cases r1 with
  | cons r rr =>
    cases rr with
    | cons r' rr =>
      cases rr with
      | cons r'' rr =>
        cases rr
        obtain ⟨t, rfl⟩ := r
        obtain ⟨t', rfl⟩ := r'
        obtain ⟨t'', rfl⟩ := r''
        refine call_range_3 (by omega) ?_ (Or.inl (PyProof.noPylong_small (by omega)))
        refine wpAny_pyIter_range (IsRange.new ..) (AJU hb) ?_
        have I2 : Inv X pins σ H1 { s1 with heap := s1.heap.push { cls := .type "range", data := .fields #[.int i t, .int j t', .int k t''] }, toks := s1.toks } := I1.kept fun b o e => Heap.get?_push_of_some _ e
        refine ⟨(s1.heap.push { cls := .type "range", data := .fields #[.int i t, .int j t', .int k t''] }).objs.size, [(s1.heap.push { cls := .type "range", data := .fields #[.int i t, .int j t', .int k t''] }).objs.size], _, _, H1, rfl,
          I2.kept (t' := s1.toks) fun b o e => Heap.get?_push_of_some _ e, AAk _ i k (Ka i j k), ?_, fun b hb => ?_, q⟩
        · have e1 : i + ((0 : Nat) : Int) * k = i := by simp
          have e2 : ((Ka i j k : Nat) : Int) - ((0 : Nat) : Int) = Builtin.Range.rangeSize i j k := by
            have hnn : 0 ≤ Builtin.Range.rangeSize i j k := by
              unfold Builtin.Range.rangeSize
              rw [if_pos (by omega)]
              split
              · have := Int.ediv_nonneg (a := j - i - 1) (b := k) (by omega) (by omega)
                omega
              · exact Int.le_refl _
            unfold Ka
            omega
          show IsRangeIter _ _ (i + ((0 : Nat) : Int) * k) (((Ka i j k : Nat) : Int) - ((0 : Nat) : Int)) k
          rw [e1, e2]
          exact Heap.get?_push_size _ rfl
        · have e : b = (s1.heap.push { cls := .type "range", data := .fields #[.int i t, .int j t', .int k t''] }).objs.size := by simpa using hb
          subst e
          exact I2.Pz (Nat.le_refl _) (I2.hok.fresh (Nat.le_refl _))
theorem ABf (lo c : Int) (n : Nat) : (Ou lo c n).length = n := by simp [Ou]
theorem AKH {G : Hp} {lo c : Int} {n : Nat} : Mi K G (fL lo c n) (Ou lo c n) := by
  intro Oc H' ok s
  rw [ABf]
  refine ⟨fun i hi => hi, fun i x H'' hi y => ?_, Nat.le_refl _⟩
  obtain ⟨e, y⟩ := y
  subst e y
  exact ⟨.int (lo + (i : Nat) * c), by simp [Ou, hi], Ao.refl _, .int _⟩
theorem AIs {a b c : Expr} {ta : TA} {r : BW} {p pos : Pos} (hg : Gl X "range") (hm : X.mg "range" = none) (ha : JA X K [a, b, c] ta r) (hs : starEach [a, b, c] X.env = [(false, eval a X.env), (false, eval b X.env), (false, eval c X.env)] := by rfl) (hs2 : starEach [b, c] X.env = [(false, eval b X.env), (false, eval c X.env)] := by rfl) :
    JI X K tg (.Call (.Name "range" p) [a, b, c] [] pos) (pM ta) (BX RM r) := ⟨AEp hg hm ha.pe hs hs2, by
  intro O σ H ρ items R ok er hf q
  obtain ⟨ds, e1, hf⟩ := Ar hf
  refine ha.pu O σ H ρ ds _ ok er e1 fun vs H1 s1 r1 => ?_
  unfold RM at hf
  split at hf
  · rename_i x y z
    cases r1 with
    | cons u r1 =>
      cases r1 with
      | cons u2 r1 =>
        cases r1 with
        | cons u3 r1 =>
          cases r1
          cases u
          cases u2
          cases u3
          by_cases hc : 0 ≤ x ∧ x ≤ y ∧ y < 1000000 ∧ 1 ≤ z ∧ z < 1000000
          · rw [if_pos hc] at hf
            cases hf
            exact ⟨x, y, z, rfl, hc, q _ H1 s1 AKH⟩
          · rw [if_neg hc] at hf
            cases hf
  · cases hf⟩
end
section
variable {X : Cx} {K : Frag} {pos : Pos}
def AIL (i : Nat) (vf : Aq → Option Sl) : Am := fun ρ => (vf ρ).bind fun s => (Kw s).bind fun d => (Lw d).bind fun es => (ρ[i]?).bind fun s' => (Lh s').bind fun ds => if fits (ds.length + es.length) = true then some (.nx (ρ.set i (.ow (ds ++ es)))) else none
def AFQ (j i : Nat) (fi : PF) : Am := fun ρ => (fi (full ρ)).bind fun kd => (Ij kd).bind fun k => (ρ[i]?).bind fun s' => (Lh s').bind fun ds => if 0 ≤ k ∧ fits ds.length = true then (ds[k.toNat]?).bind fun d => some (.nx ((ρ.set i (.ow (ds.eraseIdx k.toNat))).set j (.sh d))) else none
end
end L2
namespace L2
open PySem PySem.Spec PyProof.Rows
theorem Cv {n m : Nat} {F : Am} {ds : List D} {o : Out} {d : D} (hl : ds.length = n) (h : F (HF m ds) = some o) (ho : outD o = some d) : Ba n m F ds = some d := by
  unfold Ba
  rw [if_pos hl, h]
  exact ho
theorem Hs {n m : Nat} {F : Am} {ds : List D} {es : List D} (hl : ds.length = n) (h : F (HF m ds) = some (.rl es)) : Ci n m F ds = some es := by
  unfold Ci
  rw [if_pos hl, h]
  rfl
theorem uD (a b : Int) : Ck (.int a) (.int b) = some (.int (a + b)) := rfl
theorem t8 (a b : Int) : Ed (.int a) (.int b) = some (.int (a - b)) := rfl
theorem Zc (a b : Int) : DR (.int a) (.int b) = if (small a || small b) = true then some (.int (a * b)) else none := rfl
theorem La (a b : Int) : BV (.int a) (.int b) = if 0 < b then some (.int (a % b)) else none := by
  show (if decide (0 < b) = true then _ else _) = _
  simp only [decide_eq_true_eq]
theorem VD (a b : Int) : CJ (.int a) (.int b) = if (0 < b ∧ b < 1073741824) ∨ Wide b then some (.int (a / b)) else none := by
  show (if decide ((0 < b ∧ b < 1073741824) ∨ Wide b) = true then _ else _) = _
  simp only [decide_eq_true_eq]
theorem AIl (a b : Int) : G9 (.int a) (.int b) = if 0 ≤ b ∧ b ≤ 1000000 ∧ a.natAbs < 2 ^ 64 then some (.int (a ^ b.toNat)) else none := by
  show (if decide (0 ≤ b ∧ b ≤ 1000000 ∧ a.natAbs < 2 ^ 64) = true then _ else _) = _
  simp only [decide_eq_true_eq]
def G7 (b : Int) : Int := 10 ^ b.toNat
theorem RL (b : Int) : 0 < G7 b := Int.pow_pos (by decide)
theorem wH (b : Int) : G9 (.int 10) (.int b) = if 0 ≤ b ∧ b ≤ 1000000 then some (.int (G7 b)) else none := by
  rw [AIl]
  have e : (10 : Int).natAbs < 2 ^ 64 := by decide
  simp only [e, and_true]
  rfl
theorem nG (a b : Int) : Ha (.int a) (.int b) = some (.bool (decide (a < b))) := rfl
theorem wG (a b : Int) : Ih (.int a) (.int b) = some (.bool (decide (a ≤ b))) := rfl
theorem vD (a b : Int) : G3 (.int a) (.int b) = some (.bool (decide (b < a))) := rfl
theorem rN (a b : Int) : Mz (.int a) (.int b) = some (.bool (decide (b ≤ a))) := rfl
theorem wF (a : Int) : M9 (.int a) = some (.int (-a)) := rfl
theorem Ot (a b : Int) : Bj (.int a) (.int b) = some (.bool (decide (a = b))) := by
  simp [Bj, SeqAt.shaped, PyData.canLay0, PyData.depth, PyData.eqv, Bool.beq_eq_decide_eq]
theorem qI (a b : Int) : Bu (.int a) (.int b) = some (.bool (!decide (a = b))) := by
  simp [Bu, SeqAt.shaped, PyData.canLay0, PyData.depth, PyData.eqv, Bool.beq_eq_decide_eq]
theorem wQ (ds : List D) (i : Int) : Av (.list ds) (.int i) = DW ds i := rfl
theorem lN (ds : List D) (i : Int) : Av (.tuple ds) (.int i) = DW ds i := rfl
theorem Q0 {α : Type} (xs : List α) (j : Nat) : DW xs (j : Int) = xs[j]? := by
  unfold DW GR
  by_cases h : j < xs.length
  · rw [if_pos (by omega), if_pos (by omega)]
    simp
  · rw [if_pos (by omega), if_neg (by omega)]
    simp; omega
theorem uU {α : Type} (x : α) (xs : List α) : DW (x :: xs) 0 = some x := Q0 (x :: xs) 0
theorem zJ {α : Type} (x y : α) (xs : List α) : DW (x :: y :: xs) 1 = some y := Q0 (x :: y :: xs) 1
theorem yR {α : Type} (x y z : α) (xs : List α) : DW (x :: y :: z :: xs) 2 = some z := Q0 (x :: y :: z :: xs) 2
theorem lW {n : Nat} (h : n < 16777216) : fits n = true := decide_eq_true h
theorem d7 (i : Int) : small i = decide (-18446744073709551616 < i ∧ i < 18446744073709551616) := rfl
theorem mJ (n : Nat) : fits n = decide (n < 16777216) := rfl
theorem tU (i : List D) : Ib (.list i) = "list" := rfl
theorem uB (i : List D) : Ib (.tuple i) = "tuple" := rfl
theorem zT (i : Bool) : Ib (.bool i) = "bool" := rfl
theorem xJ (i : Int) : Ib (.int i) = "int" := rfl
theorem uO : Ib .none = "NoneType" := rfl
theorem vX (t : String) : Jl t t = true := by simp [Jl]
theorem tO : Jl "int" "bool" = false := by decide
theorem mH : Jl "bool" "int" = true := by decide
theorem xP : Jb (.none : D) = true := rfl
theorem pY (i : Int) : Jb (.int i : D) = false := rfl
theorem mL (i : List D) : Jb (.list i : D) = false := rfl
theorem uJ (i : List D) : Jb (.tuple i : D) = false := rfl
theorem Cq {α β : Type} (a : α) (f : α → Option β) : (some a).bind f = f a := by
  have h : ∀ o : Option α, o = some a → o.bind f = f a := by
    intro o e
    subst e
    rfl
  exact h _ rfl
theorem nY {α β : Type} (f : α → Option β) : (none : Option α).bind f = none := rfl
theorem wR {α : Type} (x : α) (xs : List α) : (x :: xs)[0]? = some x := rfl
theorem uX {α : Type} (x : α) (xs : List α) (i : Nat) : (x :: xs)[i + 1]? = xs[i]? := rfl
theorem sJ (b : Bool) : Ow (.bool b) = some b := rfl
theorem v9 (b : Int) : Ij (.int b) = some b := rfl
theorem tG (b : List D) : Lw (.list b) = some b := rfl
theorem xT (b : List D) : xM (.tuple b) = some b := rfl
theorem pA (b : D) : Kw (.sh b) = some b := rfl
theorem oJ (b : List D) : Lh (.ow b) = some b := rfl
theorem pB (d : D) : Sl.view (.sh d) = some d := rfl
theorem lV (d : List D) : Sl.view (.ow d) = some (.list d) := rfl
theorem rR : Sl.view .no = none := rfl
theorem pO (d : D) : Sl.mask (.sh d) = some d := rfl
theorem wN (d : List D) : Sl.mask (.ow d) = none := rfl
theorem wZ : Sl.mask .no = none := rfl
theorem xN (ds : List D) : CN [.list ds] = some (.int ds.length) := rfl
theorem pP (ds : List D) : CN [.tuple ds] = some (.int ds.length) := rfl
theorem xU (ds : List D) : Il [.list ds] = some ds := rfl
theorem oZ (ds : List D) : Il [.tuple ds] = some ds := rfl
theorem n6 (ds : List D) : LQ [.list ds] = some (Jg ds) := rfl
theorem nP (ds es : List D) : O7 [.list ds, .list es] = some (Mg ds es) := rfl
theorem qJ (i j : Int) : Mr [.int i, .int j] = some (.int (max i j)) := rfl
theorem m6 (i j : Int) : AJc [.int i, .int j] = some (.int (min i j)) := rfl
theorem zB (b : Bool) : Kd [.bool b] = some (.int (if b then 1 else 0)) := rfl
theorem yF (b : Int) : Kd [.int b] = some (.int b) := rfl
theorem R7 (j : Int) (h : -4611686018427387904 ≤ j ∧ j < 4611686018427387904) : Em [.int j] = some (Gm 0 j.toNat) := if_pos h
theorem t7 (m : Nat) (ds : List D) : HF m ds = ds.map .sh ++ List.replicate (m - ds.length) .no := rfl
theorem mV (i : Int) : Gs (.int i) = true := by simp [Gs]
theorem oX (i : Bool) : Gs (.bool i) = true := by simp [Gs]
theorem vK : Gs .none = true := by simp [Gs]
theorem uW (ds : List D) : Gs (.tuple ds) = GJ ds := by simp [Gs]
theorem xF : GJ [] = true := rfl
theorem ZM (d : D) (ds : List D) : GJ (d :: ds) = (Gs d && GJ ds) := rfl
theorem yD {α : Type} (a b : α) : (if true = true then a else b) = a := rfl
theorem wO {α : Type} (a b : α) : (if false = true then a else b) = b := rfl
theorem Np {α : Type} {bd : D → Bf → Option Bf} {pt : PB} {fe : PF} {ρ0 : Bf} (enc : α → D) (p : α → Bool) (h : α → D) : ∀ (xs : List α), (∀ x ∈ xs, ∃ ρ1, bd (enc x) ρ0 = some ρ1 ∧ pt ρ1 = some (p x) ∧ (p x = true → fe ρ1 = some (h x))) →
    Jq bd pt fe ρ0 (xs.map enc) = some ((xs.filter p).map h)
  | [], _ => rfl
  | x :: xs, H => by
    obtain ⟨ρ1, h1, h2, h3⟩ := H x CW
    have ih := Np enc p h xs fun y hy => H y (BZ hy)
    rw [List.map_cons]
    unfold Jq
    rw [h1, Cq, h2, Cq, ih]
    cases hp : p x with
    | true => rw [if_pos rfl, h3 hp, Cq, Cq, List.filter_cons_of_pos hp]; rfl
    | false => rw [if_neg Bool.false_ne_true, List.filter_cons_of_neg (by rw [hp]; exact Bool.false_ne_true)]
theorem Oz {α : Type} {bd : D → Bf → Option Bf} {fe : PF} {ρ0 : Bf} (enc : α → D) (h : α → D) (xs : List α) (H : ∀ x ∈ xs, ∃ ρ1, bd (enc x) ρ0 = some ρ1 ∧ fe ρ1 = some (h x)) :
    Jq bd Cu fe ρ0 (xs.map enc) = some (xs.map h) := by
  have := Np (pt := Cu) enc (fun _ => true) h xs fun x hx => by
    obtain ⟨ρ1, h1, h2⟩ := H x hx
    exact ⟨ρ1, h1, rfl, fun _ => h2⟩
  rw [this, List.filter_eq_self.mpr (fun _ _ => rfl)]
theorem Rk {bs : D → Aq → Option Aq} {F : Am} {d : D} {ds : List D} {ρ ρ1 ρ2 : Aq} (h1 : bs d ρ = some ρ1) (h2 : F ρ1 = some (.nx ρ2)) : Dl bs F (d :: ds) ρ = Dl bs F ds ρ2 := by
  simp only [Dl, h1, h2, Cq]
theorem rQ {bs : D → Aq → Option Aq} {F : Am} {d r : D} {ds : List D} {ρ ρ1 : Aq} (h1 : bs d ρ = some ρ1) (h2 : F ρ1 = some (.rt r)) : Dl bs F (d :: ds) ρ = some (.rt r) := by
  simp only [Dl, h1, h2, Cq]
theorem W2 {α S : Type} {bs : D → Aq → Option Aq} {F : Am} (enc : α → D) (R : S → Aq → Prop) (step : S → α → S) : ∀ (xs : List α), (∀ s ρ x, x ∈ xs → R s ρ → ∃ ρ1 ρ2, bs (enc x) ρ = some ρ1 ∧ F ρ1 = some (.nx ρ2) ∧ R (step s x) ρ2) →
    ∀ s ρ, R s ρ → ∃ ρ', Dl bs F (xs.map enc) ρ = some (.nx ρ') ∧ R (xs.foldl step s) ρ'
  | [], _, s, ρ, r => ⟨ρ, rfl, r⟩
  | x :: xs, H, s, ρ, r => by
    obtain ⟨ρ1, ρ2, h1, h2, r2⟩ := H s ρ x CW r
    obtain ⟨ρ', h3, r3⟩ := W2 enc R step xs (fun s ρ y hy => H s ρ y (BZ hy)) (step s x) ρ2 r2
    exact ⟨ρ', by rw [List.map_cons, Rk h1 h2]; exact h3, r3⟩
theorem iR {bs : D → Aq → Option Aq} {F : Am} {lo : Int} (R : Nat → Aq → Prop) (n : Nat) (H : ∀ i ρ, i < n → R i ρ → ∃ ρ1 ρ2, bs (.int (lo + (i : Nat))) ρ = some ρ1 ∧ F ρ1 = some (.nx ρ2) ∧ R (i + 1) ρ2) (ρ : Aq) (r : R 0 ρ) :
    ∃ ρ', Dl bs F (Gm lo n) ρ = some (.nx ρ') ∧ R n ρ' := by
  have key : ∀ (k i : Nat) (ρ : Aq), i + k = n → R i ρ → ∃ ρ', Dl bs F ((List.range' i k).map fun i => .int (lo + (i : Nat))) ρ = some (.nx ρ') ∧ R n ρ' := by
    intro k
    induction k with
    | zero => intro i ρ h r; have e : i = n := by omega
              subst e; exact ⟨ρ, rfl, r⟩
    | succ k ih =>
      intro i ρ h r
      obtain ⟨ρ1, ρ2, h1, h2, r2⟩ := H i ρ (by omega) r
      obtain ⟨ρ', h3, r3⟩ := ih (i + 1) ρ2 (by omega) r2
      exact ⟨ρ', by rw [List.range'_succ, List.map_cons, Rk h1 h2]; exact h3, r3⟩
  have := key n 0 ρ (by omega) r
  unfold Gm
  rw [List.range_eq_range']
  exact this
theorem vA {c : PB} {F : Am} (B : Nat) (R : Nat → Aq → Prop) (H : ∀ k ρ, R k ρ → ∃ b, c (full ρ) = some b ∧ (b = true → k < B ∧ ∃ ρ', F ρ = some (.nx ρ') ∧ R (k + 1) ρ')) :
    ∀ (n k : Nat) (ρ : Aq), R k ρ → k ≤ B → B < k + n → ∃ k' ρ', J4 c F n ρ = some (.nx ρ') ∧ R k' ρ' ∧ c (full ρ') = some false ∧ k' ≤ B
  | 0, k, ρ, _, h, h' => by omega
  | n + 1, k, ρ, r, h, h' => by
    obtain ⟨b, h1, h2⟩ := H k ρ r
    cases b with
    | false => exact ⟨k, ρ, by simp only [J4, h1, Cq, Bool.false_eq_true, if_false], r, h1, h⟩
    | true =>
      obtain ⟨hk, ρ2, h3, r2⟩ := h2 rfl
      obtain ⟨k', ρ', h5, r5, h6, h7⟩ := vA B R H n (k + 1) ρ2 r2 (by omega) (by omega)
      refine ⟨k', ρ', ?_, r5, h6, h7⟩
      simp only [J4, h1, h3, Cq, if_true]
      exact h5
theorem Bp {F F' : Am} {ρ ρ' : Aq} {o : Option Out} (h : F ρ = some (.nx ρ')) (h' : F' ρ' = o) : Al F F' ρ = o := by
  unfold Al
  rw [h]
  exact h'
theorem Mf {F F' : Am} {ρ : Aq} {d : D} (h : F ρ = some (.rt d)) : Al F F' ρ = some (.rt d) := by
  unfold Al
  rw [h]
  rfl
theorem sZ {F F' : Am} {ρ : Aq} {d : List D} (h : F ρ = some (.rl d)) : Al F F' ρ = some (.rl d) := by
  unfold Al
  rw [h]
  rfl
theorem Mm {fi : BW} {bs : D → Aq → Option Aq} {F : Am} {ρ : Aq} {items : List D} (h : fi (masked ρ) = some items) : Hk fi bs F ρ = Dl bs F items ρ := by
  unfold Hk
  rw [h]
  rfl
theorem Hv {fi : BW} {bd : D → Bf → Option Bf} {pt : PB} {fe : PF} {n : Nat} {is : List Nat} {ρ : Bf} {items : List D} (h : fi ρ = some items) (hl : items.length < 16777216) : CT fi bd pt fe n is ρ = Jq bd pt fe (compEnv n is ρ) items := by
  unfold CT
  rw [h, Cq, if_pos (lW hl)]
theorem Zw (t u : Thing) : Bj (encD t) (encD u) = some (.bool (decide (t = u))) := by
  unfold Bj
  rw [if_pos ⟨XJ t, XJ u⟩, YB]
theorem kW (t u : Thing) : Bu (encD t) (encD u) = some (.bool (!decide (t = u))) := by
  unfold Bu
  rw [if_pos ⟨XJ t, XJ u⟩, YB]
theorem zH (t : Thing) : Bu (encD t) (.tuple []) = some (.bool (!decide (t = none))) := kW t none
theorem pU (t : Thing) : Bj (encD t) (.tuple []) = some (.bool (decide (t = none))) := Zw t none
theorem iB (ts us : List Thing) : Bj (.list (ts.map encD)) (.list (us.map encD)) = some (.bool (decide (ts = us))) := by
  unfold Bj
  rw [if_pos ⟨Wh ts, Wh us⟩, pI]
theorem d8 (ts us : List Thing) : Bu (.list (ts.map encD)) (.list (us.map encD)) = some (.bool (!decide (ts = us))) := by
  unfold Bu
  rw [if_pos ⟨Wh ts, Wh us⟩, pI]
theorem dJ (t : Thing) : Gs (encD t) = true := by
  cases t with
  | none => rfl
  | some kw => obtain ⟨k, w⟩ := kw; rfl
theorem Tq : ∀ ts : List Thing, GJ (ts.map encD) = true
  | [] => rfl
  | t :: r => by rw [List.map_cons, ZM, dJ, Tq r]; rfl
theorem AJ7 (a b : List Int) : Bj (.list (a.map PyData.int)) (.list (b.map PyData.int)) = some (.bool (decide (a = b))) := by
  have sh : ∀ l : List Int, PyData.canLayAll0 (l.map PyData.int) = true ∧ PyData.depthAll (l.map PyData.int) ≤ 1 := by
    intro l
    induction l with
    | nil => simp [PyData.canLayAll0, PyData.depthAll]
    | cons n r ih => simp only [List.map_cons, PyData.canLayAll0, PyData.depthAll, PyData.canLay0, PyData.depth, ih.1, Bool.and_self, true_and]; have := ih.2; omega
  have sp : ∀ l : List Int, SeqAt.shaped (.list (l.map PyData.int)) = true := fun l => by
    unfold SeqAt.shaped
    simp only [PyData.canLay0, PyData.depth, (sh l).1, Bool.true_and]
    exact decide_eq_true (by have := (sh l).2; omega)
  have ev : ∀ a b : List Int, PyData.eqvAll (a.map PyData.int) (b.map PyData.int) = decide (a = b) := by
    intro a
    induction a with
    | nil => intro b; cases b <;> simp [PyData.eqvAll]
    | cons x r ih =>
      intro b
      cases b with
      | nil => simp [PyData.eqvAll]
      | cons y q => simp only [List.map_cons, PyData.eqvAll, PyData.eqv, ih q]; by_cases h1 : x = y <;> by_cases h2 : r = q <;> simp [h1, h2]
  unfold Bj
  rw [if_pos ⟨sp a, sp b⟩]
  simp only [PyData.eqv]
  rw [ev]
theorem rD (a : List Int) : Bj (.list (a.map PyData.int)) (.list []) = some (.bool (decide (a = []))) := AJ7 a []
theorem qL (a : List Thing) : Bj (.list (a.map encD)) (.list []) = some (.bool (decide (a = []))) := iB a []
end L2
namespace L2
open PySem PySem.Spec PyProof.Rows
abbrev Fl := Bf → Option (List (List D))
theorem cX {O O' : List Addr} {H H' : Hp} (s : Ao H H') (hn : ∀ b ∈ O', b ∈ O ∨ H b = none) : Ao (Ah O H) (Ah O' H') := fun b o e => by
  obtain ⟨n, e⟩ := Iw e
  rw [Cm fun z => (hn b z).elim n fun w => by rw [e] at w; cases w]
  exact s b o e
def Rg (K : Frag) (te : TE) (f : Fl) : Prop := ∀ (O : List Addr) (σ : St) (H : Hp) (ρ : Bf) (dss : List (List D)) (Q : VK), Cd O H → Dm K (Ah O H) σ ρ → f ρ = some dss →
  (∀ a ps H', Ao H H' → (a :: ps).Nodup → (∀ b ∈ a :: ps, H b = none) → H' a = some (.lst (ps.map V.ref)) → Inner K (Ah ((a :: ps) ++ O) H') H' ps dss → Q (.ref a) H') → te σ H Q
structure JN (X : Cx) (K : Frag) (e : Expr) (te : TE) (f : Fl) : Prop where
  pe : PE X e te
  pu : Rg K te f
def Mu (f : Fl) : BW := fun ρ => (f ρ).bind fun dss => some (dss.map .list)
section
variable {X : Cx} {K : Frag}
theorem Rg.l {te : TE} {f : Fl} (h : Rg K te f) : Le K te (Mu f) := by
  intro O σ H ρ ds Q ok er hf q
  obtain ⟨dss, e1, hf⟩ := Ar hf
  cases hf
  refine h O σ H ρ dss Q ok er e1 fun a ps H' s nd hn ha r => q a _ H' s (hn a CW) ha ?_
  refine r.full (DY fun b hb => ?_) fun b hb o e => ?_
  · rcases List.mem_cons.mp hb with rfl | hb
    · exact Dn CW
    · exact By hb
  · rw [Cm ?_]
    · exact e
    · intro z
      rcases List.mem_cons.mp z with z | z
      · exact (List.nodup_cons.mp nd).1 (by rw [← z]; exact hb)
      · exact ok.fresh (hn b (BZ hb)) z
theorem JN.jl {e : Expr} {te : TE} {f : Fl} (j : JN X K e te f) : JL X K e te (Mu f) := ⟨j.pe, j.pu.l⟩
def AGI (K : Frag) (t : TA) (f : Fl) : Prop := ∀ (O : List Addr) (σ : St) (H : Hp) (ρ : Bf) (dss : List (List D)) (Q : List V → Hp → Prop), Cd O H → Dm K (Ah O H) σ ρ → f ρ = some dss →
  (∀ ps H', Ao H H' → ps.Nodup → (∀ b ∈ ps, H b = none) → Inner K (Ah (ps ++ O) H') H' ps dss → Q (ps.map V.ref) H') → t σ H Q
structure JAL (X : Cx) (K : Frag) (es : List Expr) (t : TA) (f : Fl) : Prop where
  pe : PA X es t
  pu : AGI K t f
def f9 : Fl := fun _ => some []
def QW (a : BW) (r : Fl) : Fl := fun ρ => (a ρ).bind fun x => (r ρ).bind fun xs => some (x :: xs)
def gY (r : Fl) : Fl := fun ρ => (r ρ).bind fun xs => if fits xs.length = true then some xs else none
end
def RB (bd : D → Bf → Option Bf) (pt : PB) (fe : BW) (ρ0 : Bf) : List D → Option (List (List D))
  | [] => some []
  | d :: ds => (bd d ρ0).bind fun ρ1 => (pt ρ1).bind fun b => if b = true then (fe ρ1).bind fun e => (RB bd pt fe ρ0 ds).bind fun r => some (e :: r) else RB bd pt fe ρ0 ds
def P0 (fi : BW) (bd : D → Bf → Option Bf) (pt : PB) (fe : BW) (n : Nat) (is : List Nat) : Fl := fun ρ => (fi ρ).bind fun items => if fits items.length = true then RB bd pt fe (compEnv n is ρ) items else none
section
variable {K : Frag} {wi : TI} {g : TG} {tc : TT} {te : TE} {fi : BW} {bd : D → Bf → Option Bf} {pt : PB} {fe : BW}
theorem Inner.snoc {G H : Hp} {p : Addr} {xs : List V} {ds : List D} (e : H p = some (.lst xs)) (r : BP K G xs ds) : ∀ {ps : List Addr} {dss : List (List D)}, Inner K G H ps dss → Inner K G H (ps ++ [p]) (dss ++ [ds])
  | _, _, .nil => .cons e r .nil
  | _, _, .cons e' r' t => .cons e' r' (Inner.snoc e r t)
theorem AIr (hi : Yc K wi fi) (hg : iU K g bd) (ht : Oo K tc pt) (he : Le K te fe) (n : Nat) (fv : List (Nat × Str)) : Rg K (NP wi g tc te n fv) (P0 fi bd pt fe n (fv.map (·.1))) := by
  intro O σ H ρ total Q ok er hf q
  obtain ⟨items, e1, hf⟩ := Ar hf
  by_cases hc : fits items.length = true
  case neg => rw [if_neg hc] at hf; cases hf
  rw [if_pos hc] at hf
  refine hi O σ H ρ items _ ok er e1 fun J H1 s1 it => fun D0 hD0 => ?_
  have hlt : items.length < sizeLine := of_decide_eq_true hc
  have okD : ∀ {H' : Hp} {ps : List Addr}, H' D0 ≠ none → (∀ a ∈ ps, ∃ xs, H' a = some (.lst xs)) → Ao H1 H' → Cd ((D0 :: ps) ++ O) H' := fun {H' ps} hn hp s' a ha => by
    rcases List.mem_append.mp ha with ha | ha
    · rcases List.mem_cons.mp ha with rfl | ha
      · cases e : H' a with
        | none => exact absurd e hn
        | some o => exact ⟨o, rfl⟩
      · obtain ⟨xs, e⟩ := hp a ha
        exact ⟨_, e⟩
    · exact ((ok.mono s1).mono s') a ha
  have sD : ∀ {H' : Hp} {ps : List Addr}, Ao H1 H' → (∀ a ∈ ps, H1 a = none) → Ao (Ah O H1) (Ah ((D0 :: ps) ++ O) H') := fun {H' ps} s' hp => cX s' fun b hb => by
    rcases List.mem_append.mp hb with hb | hb
    · rcases List.mem_cons.mp hb with rfl | hb
      · exact .inr hD0
      · exact .inr (hp b hb)
    · exact .inl hb
  have er1 : Dm K (Ah O H1) σ ρ := er.Ah s1
  have jL : (HB n fv σ).length = (compEnv n (fv.map (·.1)) ρ).length := by simp [HB, compEnv]
  refine xK (n := items.length) (fun i ys H' => ∃ ps es rest, ys = ps.map V.ref ∧ H' D0 = some (.lst ys) ∧ Ao H1 H' ∧ ps.length ≤ i ∧ (D0 :: ps).Nodup ∧ (∀ b ∈ ps, H1 b = none) ∧ Inner K (Ah ((D0 :: ps) ++ O) H') H' ps es ∧ RB bd pt fe (compEnv n (fv.map (·.1)) ρ) (items.drop i) = some rest ∧ es ++ rest = total)
    ⟨[], [], total, rfl, Dz, Ao.new hD0, Nat.zero_le _, by simp, (fun b h => by cases h), .nil, by simpa using hf, rfl⟩ (fun i ys H' ⟨ps, es, rest, p⟩ => p.2.1)
    (fun i ys H' hi' ⟨ps, es, rest, p1, p2, p3, p4, p5, p6, p7, _⟩ => ((it ((D0 :: ps) ++ O) H' (okD (by rw [p2]; simp) p7.mem p3) (sD p3 p6)).1 i hi')) ?_ ?_
  · rintro i ys H' x H'' hi' ⟨ps, es, rest, rfl, hD', s', hy, ndp, hpn, inn, hcp, htot⟩ yl
    have ok' : Cd ((D0 :: ps) ++ O) H' := okD (by rw [hD']; simp) inn.mem s'
    obtain ⟨d, ed, s'', rd⟩ := (it ((D0 :: ps) ++ O) H' ok' (sD s' hpn)).2.1 i x H'' hi' yl
    have hdrop : items.drop i = d :: items.drop (i + 1) := by
      rw [List.drop_eq_getElem_cons hi']
      congr 1
      exact Option.some.inj ((List.getElem?_eq_getElem hi').symm.trans ed)
    rw [hdrop] at hcp
    obtain ⟨ρ1, eb, hcp⟩ := Ar hcp
    obtain ⟨b, et, hcp⟩ := Ar hcp
    have s2 := s'.trans s''
    have W6 := s'' _ _ hD'
    have ok2 : Cd ((D0 :: ps) ++ O) H'' := ok'.mono s''
    refine hg ((D0 :: ps) ++ O) x d _ H'' _ ρ1 _ ok2 rd ((rC er1).mono (sD s2 hpn)) jL eb fun σ2 hl2 er2 => ?_
    refine ht ((D0 :: ps) ++ O) σ2 H'' ρ1 b _ ok2 er2 et fun H3 s3 => ?_
    have s03 := s2.trans s3
    have hD3 := s3 _ _ W6
    have cJ : Inner K (Ah ((D0 :: ps) ++ O) H3) H3 ps es := inn.mono (Eg (s''.trans s3)) fun a _ o e => (s''.trans s3) a o e
    cases b with
    | false =>
      rw [if_neg Bool.false_ne_true] at hcp ⊢
      exact ⟨ps, es, rest, rfl, hD3, s03, by omega, ndp, hpn, cJ, hcp, htot⟩
    | true =>
      rw [if_pos rfl] at hcp ⊢
      obtain ⟨e, ee, hcp⟩ := Ar hcp
      obtain ⟨r, er', hcp⟩ := Ar hcp
      cases hcp
      refine he ((D0 :: ps) ++ O) σ2 H3 ρ1 e _ (ok2.mono s3) (er2.Ah s3) ee fun p xs H4 s4 hp3 hp4 rv => ?_
      have hD4 := s4 _ _ hD3
      have s04 := s03.trans s4
      have hpD : p ≠ D0 := fun z => by rw [z, hD3] at hp3; cases hp3
      have AIo : p ∉ ps := fun z => by obtain ⟨_, e⟩ := cJ.mem p z; rw [hp3] at e; cases e
      refine ⟨hD4, by rw [List.length_map]; omega, ps ++ [p], es ++ [e], r, by simp, by simpa using Dz, ?_, by rw [List.length_append]; show ps.length + 1 ≤ i + 1; omega, ?_, ?_, ?_, er', by rw [List.append_assoc]; exact htot⟩
      · intro b' o' eb'
        rw [Bs (Ey eb' hD0)]
        exact s04 b' o' eb'
      · have xR := List.nodup_cons.mp ndp
        refine List.nodup_cons.mpr ⟨?_, ?_⟩
        · intro z
          rcases List.mem_append.mp z with z | z
          · exact xR.1 z
          · exact hpD (List.mem_singleton.mp z).symm
        · refine List.nodup_append.mpr ⟨xR.2, List.nodup_cons.mpr ⟨by simp, List.nodup_nil⟩, fun a ha b hb z => ?_⟩
          rw [List.mem_singleton] at hb
          exact AIo (by rw [← hb, ← z]; exact ha)
      · intro b hb
        rcases List.mem_append.mp hb with hb | hb
        · exact hpn b hb
        · rw [List.mem_singleton] at hb
          rw [hb]
          exact s03.free hp3
      · have m0 : D0 ∈ (D0 :: (ps ++ [p])) ++ O := by simp
        rw [M8 m0]
        refine Inner.snoc (xs := xs) (by rw [Bs hpD]; exact hp4) ?_ (cJ.mono (cX s4 fun b hb => ?_) fun a ha o e => ?_)
        · refine rv.mono (DY fun b hb => ?_)
          simp only [List.cons_append, List.append_assoc, List.mem_cons, List.mem_append, List.not_mem_nil, or_false, false_or] at hb ⊢
          rcases hb with h | h | h | h
          · exact .inr (.inl h)
          · exact .inr (.inr (.inl h))
          · exact .inl h
          · exact .inr (.inr (.inr h))
        · simp only [List.cons_append, List.append_assoc, List.mem_cons, List.mem_append, List.not_mem_nil, or_false, false_or] at hb ⊢
          rcases hb with h | h | h | h
          · exact .inl (.inl h)
          · exact .inl (.inr (.inl h))
          · rw [h]; exact .inr hp3
          · exact .inl (.inr (.inr h))
        · rw [Bs fun z => (List.nodup_cons.mp ndp).1 (by rw [← z]; exact ha)]
          exact s4 a o e
  · rintro ys H' ⟨ps, es, rest, rfl, hD', s', hy, ndp, hpn, inn, hcp, htot⟩
    refine ⟨(it ((D0 :: ps) ++ O) H' (okD (by rw [hD']; simp) inn.mem s') (sD s' hpn)).2.2, ?_⟩
    rw [List.drop_length] at hcp
    cases hcp
    rw [List.append_nil] at htot
    subst htot
    refine q D0 ps H' (s1.trans s') ndp (fun b hb => ?_) hD' inn
    rcases List.mem_cons.mp hb with rfl | hb
    · exact s1.free hD0
    · exact s1.free (hpn b hb)
end
def vN (f : Fl) : Aq → Option Sl := fun ρ => (f (masked ρ)).bind fun dss => some (.on dss)
section
variable {X : Cx} {K : Frag}
theorem AKF {te : TE} {f : Fl} (h : Rg K te f) : Hh K te (vN f) := by
  intro H0 O0 G σ H ρ s Q ok t hf q
  obtain ⟨d, e1, hf⟩ := Ar hf
  cases hf
  obtain ⟨O, s0, n, nd, g, sl⟩ := t.ex
  have okA := Jj ok s0 sl
  refine h (O0 ++ O) σ H (masked ρ) d Q okA sl.mask e1 fun a ps H' s' nda hn ha r => ?_
  have big : Ao (Ah (O0 ++ O) H) (Ah (O0 ++ ((a :: ps) ++ O)) H') := cX s' fun b hb => by
    rcases List.mem_append.mp hb with hb | hb
    · exact .inl (Dn hb)
    · rcases List.mem_append.mp hb with hb | hb
      · exact .inr (hn b hb)
      · exact .inl (By hb)
  refine q (.ref a) H' s' ⟨O, a :: ps, s0.trans s', n, nd, g.trans big, sl.mono big fun b _ o e => s' b o e, a, ps, rfl, rfl, nda, fun b hb => ⟨fun z => okA.fresh (hn b hb) (By z), s0.free (hn b hb)⟩, ha, r.mono (DY fun b hb => ?_) fun _ _ _ e => e⟩
  simp only [List.mem_append] at hb ⊢
  rcases hb with h | h | h <;> simp [h]
section
variable {tg elt iter : Expr} {ifs : List Expr} {scope : Scope} {wi : TI} {g : TG} {tc : TT} {te : TE} {fi : BW} {bd : D → Bf → Option Bf} {pt : PB} {fe : BW}
theorem ADM {pos spos py : Pos} {i : Nat} {y : Str} (own : List Str) (fv : List (Nat × Str)) (hN : X.N.Nodup) (hy : X.N[i]? = some y) (hx : Loc X.env.scope y) (hc : X.calm = true) (hi : JI X K tg iter wi fi) (fo : Jv X scope fv) (gk : M7 own.length g) (bg : ∀ fp pins s H, JG (Di X (own ++ fv.map (·.2)) scope (Ep X.env scope.names []) fp pins s H) K tg g bd) (bt : ∀ fp pins s H, Tw (Di X (own ++ fv.map (·.2)) scope (Ep X.env scope.names []) fp pins s H) K ifs tc pt) (be : ∀ fp pins s H, JL (Di X (own ++ fv.map (·.2)) scope (Ep X.env scope.names []) fp pins s H) K elt te fe) (kind : scope.kind = .function) (cell : ∀ y ∈ scope.names, y.2 ≠ .cell) (names : ∀ x ∈ scope.names, x.2 = .local → scope.names.lookup x.1 = some .local) (free : freeOk X scope = true) (hsw : swapsWith (.ListComp elt [⟨tg, iter, ifs, 0⟩] scope pos) (some (.Name y py)) spos.line X.env = pure true) (hs : ∀ x, foldedSetIterable iter X.env x = pure x := by intro _; rfl) (hf : X.fn y = true ∨ X.env.scope.names.lookup y = some .local := by first | exact Or.inl rfl | exact Or.inr rfl) :
    JS X K (.Assign [.Name y py] (.ListComp elt [⟨tg, iter, ifs, 0⟩] scope pos) spos) (Gg (NP wi g tc te own.length fv) (El i)) (Ay i (vN (P0 fi bd pt fe own.length (fv.map (·.1))))) :=
  Qm (xG own fv hN hy hx hc hi.pe fo gk (fun fp pins s H => (bg fp pins s H).pe) (fun fp pins s H => (bt fp pins s H).pe) (fun fp pins s H => (be fp pins s H).pe) kind cell names free hsw hs hf)
    (AKF (AIr hi.pu (bg [] [] X.s₀ X.H₀).pu (bt [] [] X.s₀ X.H₀).pu (be [] [] X.s₀ X.H₀).pu _ _))
end
theorem rG (d : List (List D)) : Sl.view (.on d) = some (.list (d.map .list)) := rfl
theorem uG (d : List (List D)) : Sl.mask (.on d) = none := rfl
def KN : Sl → Option (List (List D))
  | .on dss => some dss
  | _ => none
theorem mR (d : List (List D)) : KN (.on d) = some d := rfl
theorem xW {s : Sl} {d : List (List D)} (h : KN s = some d) : s = .on d := by
  cases s with
  | on e => cases h; rfl
  | _ => cases h
def Qy (i : Nat) (fi fj : PF) (vf : Aq → Option Sl) : Am := fun ρ => (vf ρ).bind fun s => (Kw s).bind fun d => (fi (full ρ)).bind fun kd => (Ij kd).bind fun k => (fj (full ρ)).bind fun md => (Ij md).bind fun m => (ρ[i]?).bind fun s' => (KN s').bind fun dss =>
  (GR dss.length k).bind fun u => (dss[u]?).bind fun ds => (GR ds.length m).bind fun j => some (.nx (ρ.set i (.on (dss.set u (ds.set j d)))))
theorem CP.Jy {H0 : Hp} {O0 : List Addr} {G : Hp} {σ : St} {H : Hp} {ρ : Aq} {i : Nat} {dss : List (List D)} (t : CP K H0 O0 G σ H ρ) (hi : ρ[i]? = some (.on dss)) : ∃ (a : Addr) (ps : List Addr), σ[i]? = some (some (.ref a)) ∧ H a = some (.lst (ps.map V.ref)) ∧ ps.length = dss.length := by
  obtain ⟨O, s0, n, nd, g, sl⟩ := t.ex
  obtain ⟨a, ps, h1, h2, h3, h4, h5⟩ := sl.Jy nd hi
  exact ⟨a, ps, h1, h4, h5.len⟩
theorem CP.MN {H0 : Hp} {O0 : List Addr} {G : Hp} {σ : St} {H : Hp} {ρ : Aq} {v : V} {d : D} {i u : Nat} {dss : List (List D)} {ds : List D} {a : Addr} {ps : List Addr} (t : Ge K H0 O0 G σ H ρ v (.sh d)) (hi : ρ[i]? = some (.on dss)) (hu : dss[u]? = some ds) (h1 : σ[i]? = some (some (.ref a))) (h4 : H a = some (.lst (ps.map V.ref))) :
    ∃ p xs, ps[u]? = some p ∧ H p = some (.lst xs) ∧ xs.length = ds.length ∧ ∀ j, CP K H0 O0 G σ (upd H p (.lst (xs.set j v))) (ρ.set i (.on (dss.set u (ds.set j d)))) := by
  obtain ⟨O, P, s0, n, nd, g, sl, rfl, r⟩ := t.ex
  obtain ⟨a', ps', h1', h2, h3, h4', h5⟩ := sl.Jy nd hi
  rw [h1] at h1'
  cases h1'
  cases yK h4 h4'
  obtain ⟨p, xs, q1, q2, q3⟩ := h5.get hu
  have hp : p ∈ O := h2 p (BZ (List.mem_of_getElem? q1))
  have hpA : p ∈ O0 ++ ([] ++ O) := By hp
  refine ⟨p, xs, q1, q2, q3.length, fun j => ⟨O, fun b o e => ?_, n, nd, ?_, ?_⟩⟩
  · rw [Bs (Ey e (n p hp))]
    exact s0 b o e
  · rw [M8 (by simpa using hpA)]
    simpa using g
  · rw [M8 (by simpa using hpA)]
    have := sl.MN (a := a) (ps := ps) (p := p) (j := u) (q3.set r j) nd hi h1 h4 q1
    simpa using this
theorem ABY (i : Nat) {x : Str} {e ix jx : Expr} {te ti tj : TE} {fi fj : PF} {vf : Aq → Option Sl} {p Hf spos pos : Pos} (he : PE X e te) (pv : Hh K te vf) (hK : X.K = K) (hi : JE X K ix ti fi) (hj : JE X K jx tj fj) (hsx : V2 ix) (hN : X.N[i]? = some x := by rfl) (hv : Ig X.env.scope x := by first | exact Or.inl rfl | exact Or.inr (Or.inl rfl) | exact Or.inr (Or.inr rfl)) (hd : (x == ("__debug__" : Str)) = false := by decide)
    (hcd : (x == ("__classdict__" : Str)) = false := by decide)
    (ha : ∀ v, assign (.Subscript (.Subscript (.Name x p) ix Hf) jx spos) X.env v = (do
      let ov ← holding [v] (eval (.Subscript (.Name x p) ix Hf) X.env)
      let iv ← holding [v, ov] (eval jx X.env)
      standAt spos
      holding [v, ov, iv] (setItem ov iv v)
      release [v, ov, iv] []) := by intro _; rfl)
    (hs : swapsWithSole [.Subscript (.Subscript (.Name x p) ix Hf) jx spos] e pos.line X.env = pure false := by rfl) (hw : swappedStores [.Subscript (.Subscript (.Name x p) ix Hf) jx spos] e X.env = pure none := by rfl)
    (h1 : (assignEach [.Subscript (.Subscript (.Name x p) ix Hf) jx spos] X.env).map (·.2) = [assign (.Subscript (.Subscript (.Name x p) ix Hf) jx spos) X.env] := by rfl) :
    JS X K (.Assign [.Subscript (.Subscript (.Name x p) ix Hf) jx spos] e pos) (Gg te (Ra (JZ (Uk K) (Eh i) ti) tj Qe)) (Qy i fi fj vf) := ⟨lG he (sY (by subst hK; exact nF tM (M4 hN hv hd hcd) hi.pe hsx) hj.pe set_list ha) hs hw h1, by
  intro H0 O0 G σ H ρ o E ok s hf q
  obtain ⟨sl, e1, hf⟩ := Ar hf
  obtain ⟨d, e2, hf⟩ := Ar hf
  obtain ⟨kd, e5, hf⟩ := Ar hf
  obtain ⟨k, e6, hf⟩ := Ar hf
  obtain ⟨md, e7, hf⟩ := Ar hf
  obtain ⟨m, e8, hf⟩ := Ar hf
  obtain ⟨sl2, e3, hf⟩ := Ar hf
  obtain ⟨dss, e4, hf⟩ := Ar hf
  obtain ⟨u, e9, hf⟩ := Ar hf
  obtain ⟨ds, e10, hf⟩ := Ar hf
  obtain ⟨j, e11, hf⟩ := Ar hf
  rw [Zg e2] at e1
  rw [xW e4] at e3
  cases hf
  refine pv H0 O0 G σ H ρ _ _ ok s e1 fun v H' s' sv => ?_
  obtain ⟨a, ps, h1, h2, h3⟩ := sv.str.Jy e3
  refine ⟨_, h1, ?_⟩
  refine sv.str.R5 hi.pu ok e5 fun vi H2 s2 t2 ri => ?_
  have sv2 := sv.grow s2
  have h22 := s2 _ _ h2
  obtain ⟨p', xs', q1, q2, q3, _⟩ := CP.MN sv2 e3 e10 h1 h22
  have hvi : vi = .int k := by
    cases ri with
    | int i => cases e6; rfl
    | _ => cases e6
  subst hvi
  refine .inl ⟨a, _, k, .ref p', rfl, rfl, Bl.of h22, ?_, ?_⟩
  · unfold L2.DW
    rw [List.length_map, h3, e9]
    show (ps.map V.ref)[u]? = _
    rw [List.getElem?_map, q1]
    rfl
  · refine sv2.str.R5 hj.pu ok e7 fun vj H3 s3 t3 rj => ?_
    have hvj : vj = .int m := by
      cases rj with
      | int i => cases e8; rfl
      | _ => cases e8
    subst hvj
    have sv3 := sv2.grow s3
    obtain ⟨p2, xs2, w1, w2, w3, w4⟩ := CP.MN sv3 e3 e10 h1 (s3 _ _ h22)
    rw [q1] at w1
    cases w1
    exact ⟨p', xs2, m, j, rfl, rfl, w2, by rw [w3]; exact e11, q σ _ (w4 j)⟩⟩
def Xk (i : Nat) : Am := fun ρ => (ρ[i]?).bind fun s => (KN s).bind fun dss => some (.rn dss)
theorem AH7 (i : Nat) {x : Str} {p pos : Pos} (hN : X.N[i]? = some x := by rfl) (hv : Ig X.env.scope x := by first | exact Or.inl rfl | exact Or.inr (Or.inl rfl) | exact Or.inr (Or.inr rfl)) (hd : (x == ("__debug__" : Str)) = false := by decide)
    (hcd : (x == ("__classdict__" : Str)) = false := by decide) : JS X K (.Return (some (.Name x p)) pos) (N6 (Eh i)) (Xk i) := ⟨Qn (M4 hN hv hd hcd), by
  intro H0 O0 G σ H ρ o E ok s hf q
  obtain ⟨sl, e1, hf⟩ := Ar hf
  obtain ⟨dss, e2, hf⟩ := Ar hf
  cases hf
  rw [xW e2] at e1
  obtain ⟨O, s0, n, nd, g, sl⟩ := s.ex
  obtain ⟨a, ps, h1, h2, h3, h4, h5⟩ := sl.Jy nd e1
  refine ⟨_, h1, q a ps H s0 h3 (fun b hb => n b (h2 b hb)) h4 (h5.mono (DY fun b hb => ?_) fun _ _ _ e => e)⟩
  rcases List.mem_append.mp hb with hb | hb
  · exact By (h2 b hb)
  · exact Dn hb⟩
def sW (f : Fl) : Am := fun ρ => (f (full ρ)).bind fun d => some (.rn d)
def Py (K : Frag) (n : Nat) (f : List D → Option (List (List D))) : Sp := fun vs H Q _ => vs.length = n ∧ ∃ (O : List Addr) (ds : List D) (ess : List (List D)), Cd O H ∧ BP K (Ah O H) vs ds ∧ f ds = some ess ∧
  ∀ a ps H', Ao H H' → (a :: ps).Nodup → (∀ b ∈ a :: ps, H b = none) → H' a = some (.lst (ps.map V.ref)) → Inner K (Ah ((a :: ps) ++ O) H') H' ps ess → Q (.ref a) H'
def AAw : Out → Option (List (List D))
  | .rn dss => some dss
  | _ => none
def runN (n m : Nat) (F : Am) : List D → Option (List (List D)) := fun ds => if ds.length = n then (F (HF m ds)).bind AAw else none
theorem cW (n m : Nat) (F : Am) : Ht n (runN n m F) := fun ds a h => by
  unfold runN at h
  by_cases hc : ds.length = n
  · exact hc
  · rw [if_neg hc] at h; cases h
def NT (f : List D → Option (List (List D))) (r : BW) : Fl := fun ρ => (r ρ).bind f
theorem aF {k n : Nat} {x : Str} {ps : List Str} {p pos : Pos} {e : Expr} {es : List Expr} {t : TA} {r : BW} {f : List D → Option (List (List D))} (C : Callee X.prog X.w X.K X.mg X.base k x ps (Py K n f)) (hf : Ht n f) (hr : CV k X.A) (hg : Gl X x) (ha : JA X K (e :: es) t r) (hdb : (x == ("__debug__" : Str)) = false := by decide)
    (hst : starEach (e :: es) X.env = (false, eval e X.env) :: starEach es X.env := by rfl) (hpl : (backTo pos (starEach es X.env)).any (·.1) = false := by rfl) : JN X K (.Call (.Name x p) (e :: es) [] pos) (Qz (Py K n f) [] E0 t) (NT f r) := ⟨Yd C hr hg ha.pe hdb hst hpl, by
  intro O σ H ρ d Q ok er h q
  obtain ⟨ds, e1, h⟩ := Ar h
  refine ha.pu O σ H ρ ds _ ok er e1 fun vs H1 s1 r1 => ?_
  rw [List.append_nil]
  exact ⟨by rw [r1.length]; exact hf ds d h, O, ds, d, ok.mono s1, r1, h, fun a ps H' s' nd hn ha' rv => q a ps H' (s1.trans s') nd (fun b hb => s1.free (hn b hb)) ha' rv⟩⟩
end
section
variable {P : Program} {w : World} {K : Frag} {mg : Str → Option Value} {base : Heap}
theorem Def.AHd {x : Str} {st : Stmt} {N ps : List Str} {k n m : Nat} {F : Am} {fn : List D → Option (List (List D))} (hfn : fn = runN n m F) (D : Def K mg x st ps) (S : Bk N ps (BL st)) (hn : ps.length = n) (hm : N.length = m) (hb : ∀ (f : Addr) (cdv : Value) (A : Around) (outer : List Env) (s : Shared) (H : Hp) (E : XK), CV k (A.deeper (envOfC x (BL st) s.heap.objs.size f cdv)) →
      ∃ t, Gu (Dh GZ P w K mg base N x (BL st) f cdv A outer s H E).Ds K (Df st) t F) : Callee P w K mg base (k + 1) x ps (Py K n fn) := by
  subst hfn hm
  refine D.ok S (fun vs H Q E h => by rw [h.1, hn]) fun f cdv A outer s H vs Q E hr h => ?_
  obtain ⟨t, j⟩ := hb f cdv A outer s H E hr
  refine ⟨t, j.pe, ?_⟩
  obtain ⟨hl, O, ds, d, ok, r, hf, q⟩ := h
  have hl2 : ds.length = n := by rw [← r.length]; exact hl
  unfold runN at hf
  rw [if_pos hl2] at hf
  obtain ⟨o, e1, hf⟩ := Ar hf
  refine j.pu H O (Ah O H) _ H _ o _ ok (Nv r N) e1 ?_
  cases o with
  | rn es => cases hf; exact fun a ps H' s' nd hn' ha r' => q a ps H' s' nd hn' ha r'
  | rl ess => cases hf
  | rp _ _ => cases hf
  | ro d e => cases hf
  | nx ρ => cases hf
  | rt d' => cases hf
  | bk ρ => cases hf
  | ct ρ => cases hf
end
def lO (i : Nat) : Am := fun ρ => (ρ[i]?).bind fun s => (KN s).bind fun _ => some (.nx (ρ.set i .no))
def wV (i : Nat) (fi : PF) : Am := fun ρ => (fi (full ρ)).bind fun kd => (Ij kd).bind fun k => (ρ[i]?).bind fun s => (KN s).bind fun dss => (GR dss.length k).bind fun u => (dss[u]?).bind fun _ => some (.nx (ρ.set i (.on (dss.set u []))))
def sG (i j : Nat) : Am := fun ρ => (ρ[i]?).bind fun s => (KN s).bind fun _ => if j < ρ.length ∧ j ≠ i then some (.nx ((ρ.set i .no).set j .no)) else none
section
variable {X : Cx} {K : Frag}
theorem AEl (i : Nat) {x : Str} {e ix jx : Expr} {te ti tj : TE} {f fi fj : PF} {p Hf spos pos : Pos} (he : JE X K e te f) (hK : X.K = K) (hi : JE X K ix ti fi) (hj : JE X K jx tj fj) (hsx : V2 ix) (hN : X.N[i]? = some x := by rfl) (hv : Ig X.env.scope x := by first | exact Or.inl rfl | exact Or.inr (Or.inl rfl) | exact Or.inr (Or.inr rfl)) (hd : (x == ("__debug__" : Str)) = false := by decide)
    (hcd : (x == ("__classdict__" : Str)) = false := by decide)
    (ha : ∀ v, assign (.Subscript (.Subscript (.Name x p) ix Hf) jx spos) X.env v = (do
      let ov ← holding [v] (eval (.Subscript (.Name x p) ix Hf) X.env)
      let iv ← holding [v, ov] (eval jx X.env)
      standAt spos
      holding [v, ov, iv] (setItem ov iv v)
      release [v, ov, iv] []) := by intro _; rfl)
    (hs : swapsWithSole [.Subscript (.Subscript (.Name x p) ix Hf) jx spos] e pos.line X.env = pure false := by rfl) (hw : swappedStores [.Subscript (.Subscript (.Name x p) ix Hf) jx spos] e X.env = pure none := by rfl)
    (h1 : (assignEach [.Subscript (.Subscript (.Name x p) ix Hf) jx spos] X.env).map (·.2) = [assign (.Subscript (.Subscript (.Name x p) ix Hf) jx spos) X.env] := by rfl) :
    JS X K (.Assign [.Subscript (.Subscript (.Name x p) ix Hf) jx spos] e pos) (Gg te (Ra (JZ (Uk K) (Eh i) ti) tj Qe)) (Qy i fi fj (vS f)) := ABY i he.pe (PX he.pu) hK hi hj hsx hN hv hd hcd ha hs hw h1
theorem AJZ (i : Nat) {x : Str} {e ix : Expr} {te ti : TE} {f : BW} {fi : PF} {p spos pos : Pos} (he : JL X K e te f) (hi : JE X K ix ti fi) (hN : X.N[i]? = some x := by rfl) (hv : Ig X.env.scope x := by first | exact Or.inl rfl | exact Or.inr (Or.inl rfl) | exact Or.inr (Or.inr rfl)) (hd : (x == ("__debug__" : Str)) = false := by decide)
    (hcd : (x == ("__classdict__" : Str)) = false := by decide)
    (ha : ∀ v, assign (.Subscript (.Name x p) ix spos) X.env v = (do
      let ov ← holding [v] (eval (.Name x p) X.env)
      let iv ← holding [v, ov] (eval ix X.env)
      standAt spos
      holding [v, ov, iv] (setItem ov iv v)
      release [v, ov, iv] []) := by intro _; rfl)
    (hs : swapsWithSole [.Subscript (.Name x p) ix spos] e pos.line X.env = pure false := by rfl) (hw : swappedStores [.Subscript (.Name x p) ix spos] e X.env = pure none := by rfl)
    (h1 : (assignEach [.Subscript (.Name x p) ix spos] X.env).map (·.2) = [assign (.Subscript (.Name x p) ix spos) X.env] := by rfl) :
    JS X K (.Assign [.Subscript (.Name x p) ix spos] e pos) (Gg te (Ra (Eh i) ti Qe)) (Kg i fi (Rn f)) := nW i he.pe (ACq he.pu) hi hN hv hd hcd ha hs hw h1
end
def Y6 (fi : BW) (bs : D → Aq → Option Aq) (F : Am) : Am := fun ρ => (fi (full ρ)).bind fun items => Dl bs F items ρ
section
variable {X : Cx} {K : Frag} {pos : Pos}
theorem ABj {J : It} {g : TG} {tb : TS} {bs : D → Aq → Option Aq} {F : Am} {items : List D} {H0 : Hp} {O0 : List Addr} {G : Hp} {σ : St} {H1 : Hp} {ρ : Aq} {o : Out} {E : Ends} (it : Mi K G J items) (hg : aH K g bs) (hb : KQ K tb F) (ok : Cd O0 H0) (t1 : CP K H0 O0 G σ H1 ρ) (hf : Dl bs F items ρ = some o) (q : aW K H0 O0 G E o) :
    ∃ W : Nat → Nat → St → Hp → Prop, (∃ m, W 0 m σ H1) ∧ ∀ i m σ H, W i m σ H →
      (J.stop i H ∧ E.nx σ H) ∨ (J.go i H ∧ ∃ N : St → Hp → Prop, (∀ σ' H', N σ' H' → ∃ m', m' < m ∧ W (i + 1) m' σ' H') ∧ ∀ x H', J.yld i H x H' → g x σ H' fun σ2 H2 => tb { E with nx := N, ct := N, bk := E.nx } σ2 H2) := by
  refine ⟨fun i m σ H => m = items.length - i ∧ i ≤ items.length ∧ ∃ ρi, CP K H0 O0 G σ H ρi ∧ Dl bs F (items.drop i) ρi = some o, ⟨items.length, by simp, Nat.zero_le _, ρ, t1, by simpa using hf⟩, ?_⟩
  rintro i m σ' H' ⟨rfl, hil, ρi, ti, hfi⟩
  obtain ⟨O', s0', n', nd', g', sl'⟩ := ti.ex
  have I := it (O0 ++ O') H' (Jj ok s0' sl') g'
  by_cases hlt : i < items.length
  · refine .inr ⟨I.1 i hlt, fun σ' H' => ∃ ρ', CP K H0 O0 G σ' H' ρ' ∧ Dl bs F (items.drop (i + 1)) ρ' = some o, fun σ2 H2 ⟨ρ', t', h'⟩ => ⟨items.length - (i + 1), by omega, rfl, hlt, ρ', t', h'⟩, fun x H'' y => ?_⟩
    obtain ⟨d, ed, s'', rd⟩ := I.2.1 i x H'' hlt y
    have hdrop : items.drop i = d :: items.drop (i + 1) := by
      rw [List.drop_eq_getElem_cons hlt]
      congr 1
      exact Option.some.inj ((List.getElem?_eq_getElem hlt).symm.trans ed)
    rw [hdrop] at hfi
    obtain ⟨ρ1, eb, hfi⟩ := Ar hfi
    obtain ⟨o1, eo, hfi⟩ := Ar hfi
    have sv : Ge K H0 O0 G σ' H'' ρi x (.sh d) := ⟨O', [], s0'.trans s'', n', nd', g'.trans (Eg s''), sl'.mono (Eg s'') fun a _ o e => s'' a o e, rfl, rd⟩
    refine hg H0 O0 _ σ' H'' ρi x d ρ1 _ sv eb fun σ2 t2 => ?_
    refine hb H0 O0 _ σ2 H'' ρ1 o1 _ ok t2 eo ?_
    cases o1 with
    | nx ρ' => exact fun σ3 H3 t3 => ⟨ρ', t3, hfi⟩
    | ct ρ' => exact fun σ3 H3 t3 => ⟨ρ', t3, hfi⟩
    | bk ρ' => cases hfi; exact fun σ3 H3 t3 => q σ3 H3 t3
    | rt d => cases hfi; exact q
    | rl d => cases hfi; exact q
    | rn d => cases hfi; exact q
    | rp d e => cases hfi; exact q
    | ro d e => cases hfi; exact q
  · have e : i = items.length := by omega
    subst e
    rw [List.drop_length] at hfi
    cases hfi
    exact .inl ⟨I.2.2, q σ' H' ti⟩
theorem AAv {tg a : Expr} {ta : TA} {r : BW} {body : List Stmt} {g : TG} {tb : TS} {bs : D → Aq → Option Aq} {F : Am} {p pos' : Pos} (hp : PassesOwn (model X.prog X.w) X.A X.env X.xe) (hc : X.calm = true) (hgl : Gl X "range") (hm : X.mg "range" = none) (ha : JA X K [a] ta r) (hg : TQ X K tg g bs) (hb : Gu X K body tb F) (hst : starEach [a] X.env = [(false, eval a X.env)] := by rfl) (hs : ∀ x, foldedSetIterable (.Call (.Name "range" p) [a] [] pos') X.env x = pure x := by intro _; rfl) :
    JS X K (.For tg (.Call (.Name "range" p) [a] [] pos') body [] pos) (Wj (eQ ta) g tb) (Y6 (BX Em r) bs F) := ⟨xZ hp hc (vH hgl hm ha.pe hst) hg.pe hb.pe hs, by
  intro H0 O0 G σ H ρ o E ok s hf q
  obtain ⟨items, e1, hf⟩ := Ar hf
  obtain ⟨ds, e2, e1⟩ := Ar e1
  have ⟨o1, e3⟩ := s.HR ok
  refine ha.pu O0 σ H (full ρ) ds _ o1 e3 e2 fun vs H1 s1 r1 => ?_
  unfold Em at e1
  split at e1
  · rename_i j
    obtain ⟨v, rfl, rv⟩ := rep1 r1
    cases rv
    by_cases hc : -(2 ^ 62) ≤ j ∧ j < 2 ^ 62
    · rw [if_pos hc] at e1
      cases e1
      exact ⟨j, rfl, hc.1, hc.2, ABj oF hg.pu hb.pu ok (s.grow s1) hf q⟩
    · rw [if_neg hc] at e1
      cases e1
  · cases e1⟩
end
end L2
namespace L2
open PySem PySem.Spec PyProof.Rows
abbrev wI := Bf → Option (List D × D)
def AI1 (K : Frag) (te : TE) (f : wI) : Prop := ∀ (O : List Addr) (σ : St) (H : Hp) (ρ : Bf) (ds : List D) (d : D) (Q : VK), Cd O H → Dm K (Ah O H) σ ρ → f ρ = some (ds, d) →
  (∀ p a xs v H', Ao H H' → H a = none → H p = none → H' a = some (.lst xs) → H' p = some (.tup [.ref a, v]) → BP K (Ah (a :: O) H') xs ds → Rep K (Ah (a :: O) H') v d → Q (.ref p) H') → te σ H Q
structure JP (X : Cx) (K : Frag) (e : Expr) (te : TE) (f : wI) : Prop where
  pe : PE X e te
  pu : AI1 K te f
end L2
namespace L2
open PySem PySem.Spec PyProof.Rows
section
variable {X : Cx} {K : Frag}
def eE : D → Option Str
  | .str z => some z
  | _ => none
theorem zE (z : Str) : eE (.str z) = some z := rfl
def uV (f : PF) (l u : Bf → Option (Option Int)) : PF := fun ρ => (f ρ).bind fun d => (l ρ).bind fun lo => (u ρ).bind fun hi => (eE d).bind fun z => if z.length ≤ sizeLine then some (.str (Txt.slice z lo hi)) else none
def AEM (x : Str) : List D := x.cps.toList.map fun c => .str ⟨#[c]⟩
def zO (f : PF) : BW := fun ρ => (f ρ).bind fun d => (eE d).bind fun z => if z.cps.all (· < 128) = true then some (AEM z) else none
end
end L2
namespace L2
open PySem PySem.Spec PyProof.Rows
section
variable {X : Cx} {K : Frag}
def AI8 (a b : Str) : Prop := (b.length == 0) = false ∧ a.length ≤ sizeLine ∧ (Txt.split a b).length ≤ sizeLine
instance (a b : Str) : Decidable (AI8 a b) := instDecidableAnd
end
end L2
namespace L2
open PySem PySem.Spec PyProof.Rows
section
variable {X : Cx} {K : Frag}
def AJT (x : Str) (n : Int) : Prop := 1 < n ∧ n < 1000000 ∧ x.length ≠ 0 ∧ x.length * n.toNat ≤ 1000000
instance (x : Str) (n : Int) : Decidable (AJT x n) := instDecidableAnd
end
end L2
set_option hygiene false
local macro_rules | `(tactic| walk_at "pu") => `(tactic| simp only [L2.Al, L2.zO, L2.uV, L2.zE, L2.Qy, L2.vN, L2.Xk, L2.sW, L2.NT, L2.Mu, L2.QW, L2.f9, L2.gY, L2.lO, L2.wV, L2.sG, L2.rG, L2.uG, L2.mR, L2.Ay, L2.vS, L2.vF, L2.vL, L2.R4, L2.Rn, L2.Gv, L2.Ac, L2.Ma, L2.Aa, L2.Ad, L2.Ax, L2.Ff, L2.GX, L2.Ft, L2.Cu, L2.Gp, L2.Tz, L2.Qw, L2.Xz, L2.Je, L2.Ae, L2.Ab, L2.Be, L2.Bm, L2.Aw, L2.Ai, L2.BX, L2.Jx, L2.Bh, L2.Dr, L2.LR, L2.pJ, L2.Bq, L2.CQ, L2.lY, L2.Od, L2.Kg, L2.wA, L2.Gz, L2.Iu, L2.Fj, L2.GF, L2.DX, L2.O3, L2.ZD, L2.qY, L2.full, L2.masked, L2.t7,
  List.map_cons, List.map_nil, List.cons_append, List.nil_append, List.length_cons, List.length_nil, List.length_map, Nat.reduceAdd, Nat.reduceSub, Nat.zero_add, List.replicate_succ, List.replicate_zero, List.set_cons_succ, List.set_cons_zero, L2.wR, L2.uX, List.getElem?_cons_zero, List.getElem?_cons_succ, Option.join_some,
  L2.pB, L2.lV, L2.rR, L2.pO, L2.wN, L2.wZ, L2.Cq, L2.nY, Option.map_some, L2.sJ, L2.v9, L2.tG, L2.xT, L2.pA, L2.oJ, L2.uD, L2.t8, L2.Zc, L2.La, L2.VD, L2.wH, L2.RL, L2.nG, L2.wG, L2.vD, L2.rN, L2.wF, L2.Ot, L2.qI, L2.wQ, L2.lN, L2.uU, L2.zJ, L2.yR,
  L2.xN, L2.pP, L2.xU, L2.oZ, L2.n6, L2.nP, L2.qJ, L2.m6, L2.zB, L2.yF, L2.mV, L2.oX, L2.vK, L2.uW, L2.xF, L2.ZM, Bool.and_self, Bool.true_and, L2.yD, L2.wO, if_true, if_false, Bool.not_true, Bool.not_false, Bool.false_eq_true, L2.d7, L2.mJ, decide_true, decide_false, Bool.or_true, Bool.true_or, Bool.or_self, Bool.or_false, Bool.false_or, Bool.and_true, Bool.and_false, Bool.false_and, and_self, and_true, true_and, not_true_eq_false, not_false_eq_true, true_or, or_true, L2.J7, L2.Pu, L2.xP, L2.tU, L2.uB, L2.zT, L2.xJ, L2.uO, L2.vX, L2.tO, L2.mH, eq_self, L2.rD, L2.qL, L2.pY, L2.mL, L2.uJ, L2.Zw, L2.kW, L2.zH, L2.pU, L2.iB, L2.d8, L2.dJ, L2.Tq, Int.reduceLT, Int.reduceLE, Nat.reduceLT, Nat.reduceLeDiff, Int.reduceNeg, Int.reduceAdd, Int.reduceSub, Int.reduceMul, Nat.lt_irrefl, *])
set_option hygiene true
namespace LL
open PySem L2
def X6 : Am := (Al (Bq (Ax (Ac Ha (Aa 1) (Ai CN (Ab (Aa 0) Ae))))
      (Bh (Ac Av (Aa 0) (Aa 1))) CQ)
    (Bh (Ad (.int 0))))
def Nj : List D → Option D := Ba 2 2 X6
def jF : Am := (Al (Ay 1 (vS (Ac BV (Ac DR (Ac Ck (Ac BV (Aa 0) (Ad (.int 2147483629))) (Ad (.int 1))) (Ad (.int 1103515245))) (Ad (.int 2147483629))))) (Bh (Ac Ck (Ac BV (Ac DR (Aa 1) (Aa 1)) (Ad (.int 2147483587))) (Ac DR (Ac BV (Aa 0) (Ac G9 (Ad (.int 10)) (Ad (.int 50)))) (Ad (.int 2147483587))))))
def J5 : List D → Option D := Ba 1 2 jF
def iZ : Am := (Al (Ay 2 (vS (Ac BV (Ac DR (Ac Ck (Ac BV (Aa 0) (Ad (.int 2147483629))) (Ad (.int 1))) (Ad (.int 1103515245))) (Ad (.int 2147483629))))) (Al (Ay 2 (vS (Ac BV (Ac Ck (Ac Ck (Ac DR (Aa 2) (Aa 2)) (Ac DR (Aa 1) (Ad (.int 69621)))) (Ad (.int 12345))) (Ad (.int 2147483587))))) (Bh (Ac BV (Ac DR (Aa 2) (Aa 2)) (Ad (.int 2147483629))))))
def Mt : List D → Option D := Ba 2 3 iZ
def Z4 : Am := (Al (Ay 1 (vS (Ai J5 (Ab (Aa 0) Ae)))) (Al (Ay 2 (vS (Ac Av (Aw (Bm (Ab (Ad (.int 0)) (Ab (Ad (.int 1)) (Ab (Ad (.int 1)) (Ab (Ad (.int 2)) (Ab (Ad (.int 2)) (Ab (Ad (.int 2)) (Ab (Ad (.int 3)) (Ab (Ad (.int 4)) Ae)))))))))) (Ac BV (Aa 1) (Ad (.int 8)))))) (Al (Ay 3 (vS (Ac Ck (Ad (.int 1)) (Ac BV (Ac CJ (Aa 1) (Ad (.int 8))) (Ac CJ (Ad (.int 20)) (Ac Ck (Aa 2) (Ad (.int 2)))))))) (Al (Ay 4 (vS (Ac DR (Aa 3) (Ac Ck (Aa 2) (Ad (.int 2)))))) (Al (Ay 5 (vS (Ac Av (Aw (Bm (Ab (Ac BV (Ac CJ (Aa 1) (Ad (.int 320))) (Ad (.int 4))) (Ab (Ac BV (Ac CJ (Aa 1) (Ad (.int 320))) (Ad (.int 21))) Ae)))) (Ac BV (Ac CJ (Aa 1) (Ad (.int 160))) (Ad (.int 2)))))) (Bh (Be (Ab (Aa 2) (Ab (Ac Ck (Aa 4) (Ac BV (Aa 5) (Ac Ed (Ad (.int 21)) (Aa 4)))) (Ab (Aa 3) Ae))))))))))
def PN : List D → Option D := Ba 1 6 Z4
def m9 : Am := (Bh (Ac Av (Aw (Bm (Ab (Ad (.int 1)) (Ab (Ad (.int 2)) (Ab (Ad (.int 4)) (Ab (Ad (.int 8)) (Ab (Ad (.int 16)) Ae))))))) (Aa 0)))
def Jz : List D → Option D := Ba 1 1 m9
def tw (h : Int) : Int := 2 ^ h.toNat
theorem jP {h : Int} (h0 : 0 ≤ h) (h4 : h ≤ 4) : (h = 0 ∧ tw h = 1) ∨ (h = 1 ∧ tw h = 2) ∨ (h = 2 ∧ tw h = 4) ∨ (h = 3 ∧ tw h = 8) ∨ (h = 4 ∧ tw h = 16) := by
  have : h = 0 ∨ h = 1 ∨ h = 2 ∨ h = 3 ∨ h = 4 := by omega
  rcases this with rfl | rfl | rfl | rfl | rfl
  · exact .inl ⟨rfl, rfl⟩
  · exact .inr (.inl ⟨rfl, rfl⟩)
  · exact .inr (.inr (.inl ⟨rfl, rfl⟩))
  · exact .inr (.inr (.inr (.inl ⟨rfl, rfl⟩)))
  · exact .inr (.inr (.inr (.inr ⟨rfl, rfl⟩)))
structure Bd (t w st : Int) : Prop where
  t0 : 0 ≤ t
  t4 : t ≤ 4
  s1 : 1 ≤ st
  lo : st * (t + 2) ≤ w
  hi : w ≤ 20
theorem Bd.w1 {t w st : Int} (b : Bd t w st) : 1 ≤ w := by
  have : st * 1 ≤ st * (t + 2) := Int.mul_le_mul_of_nonneg_left (by have := b.t0; omega) (by have := b.s1; omega)
  have := b.lo; have := b.s1; omega
def keysOf (ts : List Thing) : List Int := ts.filterMap fun t => t.map (·.1)
def Fi (ts : List Thing) : Prop := (keysOf ts).Pairwise (· < ·)
theorem Mw {α : Type} (xs : List α) {i : Int} (h0 : 0 ≤ i) (h1 : i < xs.length) : ∃ v, v ∈ xs ∧ DW xs i = some v := by
  obtain ⟨j, rfl⟩ : ∃ j : Nat, i = (j : Int) := ⟨i.toNat, by omega⟩
  have hj : j < xs.length := by omega
  exact ⟨xs[j], List.getElem_mem hj, by rw [Q0]; simp [hj]⟩
theorem nO (ns : List Int) {k : Int} (hk : 0 ≤ k) : ∃ c, Nj [.list (ns.map .int), .int k] = some (.int c) := by
  by_cases h : k < (ns.map PyData.int).length
  · obtain ⟨v, hv, ev⟩ := Mw (ns.map PyData.int) hk h
    obtain ⟨c, _, rfl⟩ := List.mem_map.mp hv
    refine ⟨c, Cv (o := .rt (.int c)) rfl ?_ rfl⟩
    rw [List.length_map] at h
    clear hv
    unfold X6
    walk_at "pu"
  · refine ⟨0, Cv (o := .rt (.int 0)) rfl ?_ rfl⟩
    rw [List.length_map] at h
    unfold X6
    walk_at "pu"
theorem FW (a : Int) {b : Int} (h : 0 < b) : 0 ≤ a % b ∧ a % b < b := ⟨Int.emod_nonneg _ (Int.ne_of_gt h), Int.emod_lt_of_pos _ h⟩
theorem Qs (c : Int) : ∃ z, J5 [.int c] = some (.int z) ∧ 0 ≤ z := by
  have h1 := FW ((c % 2147483629 + 1) * 1103515245) (b := 2147483629) (by decide)
  have s1 : -18446744073709551616 < (c % 2147483629 + 1) * 1103515245 % 2147483629 ∧ (c % 2147483629 + 1) * 1103515245 % 2147483629 < 18446744073709551616 := ⟨by omega, by omega⟩
  refine ⟨(c % 2147483629 + 1) * 1103515245 % 2147483629 * ((c % 2147483629 + 1) * 1103515245 % 2147483629) % 2147483587 + c % G7 50 * 2147483587, Cv (o := .rt (.int _)) rfl ?_ rfl, ?_⟩
  · unfold jF
    walk_at "pu"
  · have := FW ((c % 2147483629 + 1) * 1103515245 % 2147483629 * ((c % 2147483629 + 1) * 1103515245 % 2147483629)) (b := 2147483587) (by decide)
    have := FW c (b := G7 50) (RL _)
    omega
theorem bL (c k : Int) : ∃ z, Mt [.int c, .int k] = some (.int z) ∧ 0 ≤ z := by
  have h1 := FW ((c % 2147483629 + 1) * 1103515245) (b := 2147483629) (by decide)
  have s1 : -18446744073709551616 < (c % 2147483629 + 1) * 1103515245 % 2147483629 ∧ (c % 2147483629 + 1) * 1103515245 % 2147483629 < 18446744073709551616 := ⟨by omega, by omega⟩
  generalize hn : (c % 2147483629 + 1) * 1103515245 % 2147483629 = n at *
  have h2 := FW (n * n + k * 69621 + 12345) (b := 2147483587) (by decide)
  have s2 : -18446744073709551616 < (n * n + k * 69621 + 12345) % 2147483587 ∧ (n * n + k * 69621 + 12345) % 2147483587 < 18446744073709551616 := ⟨by omega, by omega⟩
  refine ⟨(n * n + k * 69621 + 12345) % 2147483587 * ((n * n + k * 69621 + 12345) % 2147483587) % 2147483629, Cv (o := .rt (.int _)) rfl ?_ rfl, (FW _ (by decide)).1⟩
  unfold iZ
  walk_at "pu"
theorem Zy {h : Int} (h0 : 0 ≤ h) (h4 : h ≤ 4) : Jz [.int h] = some (.int (tw h)) := by
  rcases jP h0 h4 with ⟨rfl, e⟩ | ⟨rfl, e⟩ | ⟨rfl, e⟩ | ⟨rfl, e⟩ | ⟨rfl, e⟩ <;> rw [e] <;> rfl
theorem AFS (c : Int) : ∃ t w st, PN [.int c] = some (.tuple [.int t, .int w, .int st]) ∧ Bd t w st := by
  obtain ⟨n, hn, _⟩ := Qs c
  have m8 := FW n (b := 8) (by decide)
  obtain ⟨v, hv, ev⟩ := Mw ([.int 0, .int 1, .int 1, .int 2, .int 2, .int 2, .int 3, .int 4] : List D) (i := n % 8) m8.1 m8.2
  obtain ⟨t, rfl, t0, t4⟩ : ∃ t : Int, v = .int t ∧ 0 ≤ t ∧ t ≤ 4 := by
    simp only [List.mem_cons, List.mem_nil_iff, or_false] at hv
    rcases hv with e | e | e | e | e | e | e | e <;> exact ⟨_, e, by decide, by decide⟩
  have d20 : 0 < 20 / (t + 2) ∧ (20 / (t + 2)) * (t + 2) ≤ 20 ∧ 20 / (t + 2) < 1073741824 := by
    have : t = 0 ∨ t = 1 ∨ t = 2 ∨ t = 3 ∨ t = 4 := by omega
    rcases this with rfl | rfl | rfl | rfl | rfl <;> decide
  have q0 := FW (n / 8) d20.1
  have h1 : (1 + n / 8 % (20 / (t + 2))) ≤ 20 / (t + 2) := by omega
  have h2 : (1 + n / 8 % (20 / (t + 2))) * (t + 2) ≤ (20 / (t + 2)) * (t + 2) := Int.mul_le_mul_of_nonneg_right h1 (by omega)
  have m2 := FW (n / 160) (b := 2) (by decide)
  obtain ⟨v, hv, ev2⟩ := Mw ([.int (n / 320 % 4), .int (n / 320 % 21)] : List D) (i := n / 160 % 2) m2.1 m2.2
  obtain ⟨mo, rfl⟩ : ∃ mo : Int, v = .int mo := by
    simp only [List.mem_cons, List.mem_nil_iff, or_false] at hv
    rcases hv with e | e <;> exact ⟨_, e⟩
  have Fw : (1 + n / 8 % (20 / (t + 2))) * 1 ≤ (1 + n / 8 % (20 / (t + 2))) * (t + 2) := Int.mul_le_mul_of_nonneg_left (by omega) (by omega)
  have s3 : -18446744073709551616 < 1 + n / 8 % (20 / (t + 2)) ∧ 1 + n / 8 % (20 / (t + 2)) < 18446744073709551616 := ⟨by omega, by omega⟩
  have s4 : 0 < t + 2 ∧ t + 2 < 1073741824 := ⟨by omega, by omega⟩
  have s5 : 0 < 21 - (1 + n / 8 % (20 / (t + 2))) * (t + 2) := by omega
  have q1 := FW mo (b := 21 - (1 + n / 8 % (20 / (t + 2))) * (t + 2)) (by omega)
  refine ⟨t, (1 + n / 8 % (20 / (t + 2))) * (t + 2) + mo % (21 - (1 + n / 8 % (20 / (t + 2))) * (t + 2)), 1 + n / 8 % (20 / (t + 2)), Cv (o := .rt (.tuple _)) rfl ?_ rfl, ⟨t0, t4, by omega, by omega, by omega⟩⟩
  clear hv h1 h2 Fw q1 q0
  unfold Z4
  walk_at "pu"
end LL
namespace LL
open PySem L2
def Zh : Am := (Al (Ay 1 (Gv (CT (DX (Aa 0)) (Ca 0) (Ax (Ac Bu (Aa 0) (Be Ae))) (Ac Av (Aa 0) (Ad (.int 0))) 1 []))) (Bh (Ai Lz (Ab (Aw (CT (BX O7 (Ab (Aa 1) (Ab (Aw (Gz (Aa 1) (Fj (Ad (.int 1))) Iu)) Ae))) (Ks 0 1) Cu (Ac Ha (Aa 0) (Aa 1)) 2 [])) Ae))))
def T3 : List D → Option D := Ba 1 2 Zh
def J2 : Am := (Al (Bq (GX (Ax (Ac Bu (Aa 3) (Be Ae))) (Ax (Ac Bj (Aa 3) (Aa 1))))
        (Bh (Aa 2)) CQ)
      (Bq (Ax (Ac Bu (Aa 3) (Be Ae)))
        (Ay 1 (vS (Aa 3))) CQ))
def YM : Am := (Al (Ay 1 (vS (Be Ae))) (Al (Hk (BX LQ (Ab (Aa 0) Ae)) (Fo 2 3) J2) (Bh (Ad .none))))
def J6 : List D → Option D := Ba 1 4 YM
def fC : Am := (Kg 2 (Aa 3) (vS (Aa 4)))
def j9 : Am := (Al (Ay 2 (vL (BX Il (Ab (Aa 0) Ae)))) (Al (Hk (DX (Aa 1)) (Fo 3 4) fC) (LR 2)))
def O8 : List D → Option (List D) := Ci 2 5 j9
def ZV : Am := (Al (Ay 1 (vS (Ai J6 (Ab (Aa 0) Ae)))) (Al (Bq (Ax (Ac J7 (Aa 1) (Ad .none)))
      (Dr (BX Il (Ab (Aa 0) Ae))) CQ)
    (Dr (BX O8 (Ab (Aa 0) (Ab (Aw (Bm (Ab (Be (Ab (Aa 1) (Ab (Be Ae) Ae))) Ae))) Ae))))))
def OJ : List D → Option (List D) := Ci 1 2 ZV
def bD : Am := (Dr (CT (DX (Aw (BX OJ (Ab (Aa 0) Ae)))) (Ca 0) (Ax (Ac Bu (Aa 0) (Be Ae))) (Aa 0) 1 []))
def Ml : List D → Option (List D) := Ci 1 1 bD
def Zq : Am := (Bh (Ai T3 (Ab (Aw (BX OJ (Ab (Aa 0) Ae))) Ae)))
def Tf : List D → Option D := Ba 1 1 Zq
def cO : Am := (Bh (Ai CN (Ab (Aw (CT (BX LQ (Ab (Aa 0) Ae)) (Ks 0 1) (GX (Ax (Je Ih Ha (Aa 2) (Aa 0) (Aa 3))) (Ax (Ac Bu (Aa 1) (Be Ae)))) (Aa 1) 2 [1, 2])) Ae)))
def Gk : List D → Option D := Ba 3 3 cO
def things (ts : List Thing) : List (Int × Int) := ts.filterMap id
theorem XN (ts : List Thing) : keysOf ts = (things ts).map (·.1) := by
  unfold keysOf things
  rw [List.map_filterMap]
  rfl
theorem AGn (a b : List Thing) : things (a ++ b) = things a ++ things b := List.filterMap_append
theorem rM (a : List Thing) : things (none :: a) = things a := rfl
theorem oU (x : Int × Int) (a : List Thing) : things (some x :: a) = x :: things a := rfl
theorem yS (a b : List Thing) : keysOf (a ++ b) = keysOf a ++ keysOf b := List.filterMap_append
theorem AAa (a : List Thing) : keysOf (none :: a) = keysOf a := rfl
theorem YQ (x : Int × Int) (a : List Thing) : keysOf (some x :: a) = x.1 :: keysOf a := rfl
theorem SM {n j : Nat} (h : j < n) : GR n (j : Int) = some j := by
  unfold GR
  rw [if_pos (by omega), if_pos (by omega)]
  simp
def Ju (q : Nat × Thing) : D := .tuple [.int (q.1 : Nat), encD q.2]
def doneF (ts : List Thing) (ws : List (Nat × Thing)) : List Thing := ws.foldl (fun l q => l.set q.1 q.2) ts
theorem AKZ (ts : List Thing) (ws : List (Nat × Thing)) (h : ∀ q ∈ ws, q.1 < ts.length) : O8 [.list (ts.map encD), .list (ws.map Ju)] = some ((doneF ts ws).map encD) := by
  have loop := W2 (bs := Fo 3 4) (F := fC) Ju (fun (us : List Thing) ρ => us.length = ts.length ∧ ∃ s3 s4, ρ = [.sh (.list (ts.map encD)), .sh (.list (ws.map Ju)), .ow (us.map encD), s3, s4]) (fun l q => l.set q.1 q.2) ws ?_ ts
    [.sh (.list (ts.map encD)), .sh (.list (ws.map Ju)), .ow (ts.map encD), .no, .no] ⟨rfl, .no, .no, rfl⟩
  · obtain ⟨ρ', hf, _, s3, s4, rfl⟩ := loop
    refine Hs rfl ?_
    unfold j9
    refine Bp (ρ' := [.sh (.list (ts.map encD)), .sh (.list (ws.map Ju)), .ow (ts.map encD), .no, .no]) (by walk_at "pu") ?_
    exact Bp ((Mm (items := ws.map Ju) (by walk_at "pu")).trans hf) (by walk_at "pu"; rfl)
  · rintro us ρ q hq ⟨hl, s3, s4, rfl⟩
    have hi := SM (n := ts.length) (j := q.1) (h q hq)
    refine ⟨_, [.sh (.list (ts.map encD)), .sh (.list (ws.map Ju)), .ow ((us.map encD).set q.1 (encD q.2)), .sh (.int (q.1 : Nat)), .sh (encD q.2)], rfl, ?_, by simp [hl], .sh (.int (q.1 : Nat)), .sh (encD q.2), by rw [List.map_set]⟩
    unfold fC
    walk_at "pu"
def Ec (last : Thing) : Nat → List Thing → Option Nat
  | _, [] => none
  | i, none :: r => Ec last (i + 1) r
  | i, some x :: r => if some x = last then some i else Ec (some x) (i + 1) r
def wY : Option Nat → D
  | none => .none
  | some n => .int (n : Nat)
theorem ZZ (L : D) : ∀ (ts : List Thing) (i : Nat) (last : Thing) (s2 s3 : Sl),
    match Ec last i ts with
    | some p => Dl (Fo 2 3) J2 (((ts.map encD).zipIdx i).map fun p => .tuple [.int (p.2 : Nat), p.1]) [.sh L, .sh (encD last), s2, s3] = some (.rt (.int (p : Nat)))
    | none => ∃ l' s2' s3', Dl (Fo 2 3) J2 (((ts.map encD).zipIdx i).map fun p => .tuple [.int (p.2 : Nat), p.1]) [.sh L, .sh (encD last), s2, s3] = some (.nx [.sh L, .sh l', s2', s3'])
  | [], i, last, s2, s3 => ⟨_, _, _, rfl⟩
  | none :: r, i, last, s2, s3 => by
    have ih := ZZ L r (i + 1) last (.sh (.int (i : Nat))) (.sh (encD none))
    have step : Dl (Fo 2 3) J2 ((((none :: r).map encD).zipIdx i).map fun p => .tuple [.int (p.2 : Nat), p.1]) [.sh L, .sh (encD last), s2, s3] = Dl (Fo 2 3) J2 (((r.map encD).zipIdx (i + 1)).map fun p => .tuple [.int (p.2 : Nat), p.1]) [.sh L, .sh (encD last), .sh (.int (i : Nat)), .sh (encD none)] := by
      rw [List.map_cons, List.zipIdx_cons, List.map_cons]
      refine Rk rfl ?_
      unfold J2
      walk_at "pu"
    rw [step]
    exact ih
  | some x :: r, i, last, s2, s3 => by
    by_cases hx : some x = last
    · have e : Ec last i (some x :: r) = some i := if_pos hx
      rw [e]
      show Dl _ _ _ _ = _
      rw [List.map_cons, List.zipIdx_cons, List.map_cons]
      refine rQ rfl ?_
      have hn : ¬ some x = none := by simp
      subst hx
      unfold J2
      walk_at "pu"
    · have e : Ec last i (some x :: r) = Ec (some x) (i + 1) r := if_neg hx
      rw [e]
      have ih := ZZ L r (i + 1) (some x) (.sh (.int (i : Nat))) (.sh (encD (some x)))
      have step : Dl (Fo 2 3) J2 ((((some x :: r).map encD).zipIdx i).map fun p => .tuple [.int (p.2 : Nat), p.1]) [.sh L, .sh (encD last), s2, s3] = Dl (Fo 2 3) J2 (((r.map encD).zipIdx (i + 1)).map fun p => .tuple [.int (p.2 : Nat), p.1]) [.sh L, .sh (encD (some x)), .sh (.int (i : Nat)), .sh (encD (some x))] := by
        rw [List.map_cons, List.zipIdx_cons, List.map_cons]
        refine Rk rfl ?_
        have hn : ¬ some x = none := by simp
        clear ih e
        unfold J2
        walk_at "pu"
      rw [step]
      exact ih
theorem uE (ts : List Thing) : J6 [.list (ts.map encD)] = some (wY (Ec none 0 ts)) := by
  have lp := ZZ (.list (ts.map encD)) ts 0 none .no .no
  have hb : YM (HF 4 [.list (ts.map encD)]) = (Dl (Fo 2 3) J2 (((ts.map encD).zipIdx 0).map fun p => .tuple [.int (p.2 : Nat), p.1]) [.sh (.list (ts.map encD)), .sh (encD none), .no, .no]).bind fun o => match o with
      | .nx ρ' => Bh (Ad .none) ρ'
      | .rt d => some (.rt d)
      | .rl d => some (.rl d)
      | .rn d => some (.rn d)
      | .rp d e => some (.rp d e)
      | .ro d e => some (.ro d e)
      | .bk ρ' => some (.bk ρ')
      | .ct ρ' => some (.ct ρ') := by
    unfold YM
    refine Bp (ρ' := [.sh (.list (ts.map encD)), .sh (.tuple []), .no, .no]) (by walk_at "pu") ?_
    unfold Al
    rw [Mm (items := Jg (ts.map encD)) (by walk_at "pu")]
    rfl
  cases hs : Ec none 0 ts with
  | some p =>
    rw [hs] at lp
    have lp' : Dl _ _ _ _ = _ := lp
    refine Cv rfl (hb.trans ?_) (o := .rt (.int (p : Nat))) rfl
    rw [lp']
    rfl
  | none =>
    rw [hs] at lp
    obtain ⟨l', s2', s3', lp⟩ := lp
    refine Cv rfl (hb.trans ?_) (o := .rt .none) rfl
    rw [lp]
    rfl
theorem cD (ts : List Thing) : ∀ (i : Nat) (last : Thing) (p : Nat), Ec last i ts = some p → i ≤ p ∧ p < i + ts.length := by
  induction ts with
  | nil => intro i last p h; cases h
  | cons t r ih =>
    intro i last p h
    cases t with
    | none => have := ih (i + 1) last p h; simp; omega
    | some x =>
      unfold Ec at h
      by_cases hx : some x = last
      · rw [if_pos hx] at h; cases h; simp
      · rw [if_neg hx] at h; have := ih (i + 1) (some x) p h; simp; omega
def Cr (ts : List Thing) : List Thing := match Ec none 0 ts with
  | none => ts
  | some p => ts.set p none
theorem zM (ts : List Thing) : OJ [.list (ts.map encD)] = some ((Cr ts).map encD) := by
  have hs := uE ts
  refine Hs rfl ?_
  unfold ZV Cr
  cases h : Ec none 0 ts with
  | none =>
    rw [h] at hs
    have hs' : J6 [.list (ts.map encD)] = some .none := hs
    clear hs
    walk_at "pu"
  | some p =>
    rw [h] at hs
    have hs' : J6 [.list (ts.map encD)] = some (.int (p : Nat)) := hs
    have hd : O8 [.list (ts.map encD), .list [.tuple [.int (p : Nat), .tuple []]]] = some ((ts.set p none).map encD) := AKZ ts [(p, none)] fun q hq => by
      rw [List.mem_singleton.mp hq]
      have := cD ts 0 none p h
      show p < _
      omega
    clear hs
    walk_at "pu"
def FJ (t : Thing) : Bool := !decide (t = none)
theorem n8 (ts : List Thing) (hl : ts.length < 16777216) : Ml [.list (ts.map encD)] = some (((Cr ts).filter FJ).map encD) := by
  refine Hs rfl ?_
  have hm := zM ts
  have hl2 : (Cr ts).length < 16777216 := by
    unfold Cr
    split
    · exact hl
    · simpa using hl
  unfold bD Dr
  rw [Hv (items := (Cr ts).map encD) (by walk_at "pu") (by simpa using hl2)]
  rw [Np encD FJ encD]
  · rfl
  · intro t _
    refine ⟨_, rfl, ?_, fun _ => rfl⟩
    show Ax _ [some (encD t)] = some (!decide (t = none))
    walk_at "pu"
theorem zF (ts : List Thing) : (ts.filter FJ).map (fun t : Thing => PyData.int ((t.getD (0, 0)).1)) = (keysOf ts).map PyData.int := by
  induction ts with
  | nil => rfl
  | cons t r ih =>
    cases t with
    | none => exact ih
    | some x => rw [YQ, List.map_cons, ← ih]; rfl
theorem oO : ∀ K : List Int, ((K.zip (K.drop 1)).map fun p => decide (p.1 < p.2)).all id = decide (K.Pairwise (· < ·))
  | [] => by simp
  | [a] => by simp
  | a :: b :: r => by
    have ih := oO (b :: r)
    have e : ((a :: b :: r).zip ((a :: b :: r).drop 1)) = (a, b) :: ((b :: r).zip ((b :: r).drop 1)) := rfl
    rw [e, List.map_cons, List.all_cons, ih]
    rw [Bool.eq_iff_iff]
    simp only [id, Bool.and_eq_true, decide_eq_true_eq]
    rw [List.pairwise_cons (a := a)]
    constructor
    · rintro ⟨h1, h2⟩
      refine ⟨fun c hc => ?_, h2⟩
      rcases List.mem_cons.mp hc with rfl | hc
      · exact h1
      · have := (List.pairwise_cons.mp h2).1 c hc
        omega
    · rintro ⟨h1, h2⟩
      exact ⟨h1 b CW, h2⟩
theorem vG (bs : List Bool) : Ol (bs.map PyData.bool) = some bs := by
  induction bs with
  | nil => rfl
  | cons b r ih => simp only [List.map_cons, Ol, ih, Cq]
theorem AIj (xs : List D) : cutD xs (some 1) none = xs.drop 1 := by
  unfold cutD
  cases xs with
  | nil => rfl
  | cons x r =>
    have e1 : HT.De (x :: r).length 0 (some 1) = 1 := by simp [HT.De]
    have e2 : HT.De (x :: r).length (x :: r).length none = (x :: r).length := by simp [HT.De]
    rw [e1, e2]
    rw [List.take_of_length_le (by simp)]
theorem AFZ (a b : List Int) : Mg (a.map PyData.int) (b.map PyData.int) = (a.zip b).map fun p => .tuple [.int p.1, .int p.2] := by
  unfold Mg
  rw [List.zipWith_map, List.zip_eq_zipWith, List.map_zipWith]
instance (ts : List Thing) : Decidable (Fi ts) := inferInstanceAs (Decidable ((keysOf ts).Pairwise (· < ·)))
theorem AFp (ts : List Thing) (hl : ts.length < 16777216) : T3 [.list (ts.map encD)] = some (.bool (decide (Fi ts))) := by
  have hk : (keysOf ts).length < 16777216 := Nat.lt_of_le_of_lt (List.length_filterMap_le _ _) hl
  refine Cv (o := .rt (.bool (decide (Fi ts)))) rfl ?_ rfl
  unfold Zh
  refine Bp (ρ' := [.sh (.list (ts.map encD)), .sh (.list ((keysOf ts).map PyData.int))]) ?_ ?_
  · have hc : CT (DX (Aa 0)) (Ca 0) (Ax (Ac Bu (Aa 0) (Be Ae))) (Ac Av (Aa 0) (Ad (.int 0))) 1 [] [some (.list (ts.map encD)), none] = some ((keysOf ts).map PyData.int) := by
      rw [Hv (items := ts.map encD) rfl (by simpa using hl), Np encD FJ (fun t : Thing => PyData.int ((t.getD (0, 0)).1)), zF]
      intro t _
      refine ⟨_, rfl, ?_, fun h => ?_⟩
      · show Ax _ [some (encD t)] = some (!decide (t = none))
        walk_at "pu"
      · cases t with
        | none => cases h
        | some x => obtain ⟨k, w⟩ := x; rfl
    walk_at "pu"
  · have hc : CT (BX O7 (Ab (Aa 1) (Ab (Aw (Gz (Aa 1) (Fj (Ad (.int 1))) Iu)) Ae))) (Ks 0 1) Cu (Ac Ha (Aa 0) (Aa 1)) 2 [] [some (.list (ts.map encD)), some (.list ((keysOf ts).map PyData.int))] = some (((keysOf ts).zip ((keysOf ts).drop 1)).map fun p => .bool (decide (p.1 < p.2))) := by
      have hz : (BX O7 (Ab (Aa 1) (Ab (Aw (Gz (Aa 1) (Fj (Ad (.int 1))) Iu)) Ae))) [some (.list (ts.map encD)), some (.list ((keysOf ts).map PyData.int))] = some (((keysOf ts).zip ((keysOf ts).drop 1)).map fun p => .tuple [.int p.1, .int p.2]) := by
        rw [← AFZ, List.map_drop, ← AIj]
        walk_at "pu"
      rw [Hv hz (by rw [List.length_map, List.length_zip]; omega), Oz (fun p : Int × Int => .tuple [.int p.1, .int p.2]) (fun p : Int × Int => .bool (decide (p.1 < p.2)))]
      intro p _
      exact ⟨_, rfl, rfl⟩
    have hg : Lz [.list (((keysOf ts).zip ((keysOf ts).drop 1)).map fun p => .bool (decide (p.1 < p.2)))] = some (.bool (decide (Fi ts))) := by
      have e : (((keysOf ts).zip ((keysOf ts).drop 1)).map fun p => PyData.bool (decide (p.1 < p.2))) = (((keysOf ts).zip ((keysOf ts).drop 1)).map fun p => decide (p.1 < p.2)).map PyData.bool := by rw [List.map_map]; rfl
      rw [e]
      show (Ol _).bind _ = _
      rw [vG, Cq, oO]
      rfl
    walk_at "pu"
theorem ADw (ts : List Thing) : (Cr ts).length = ts.length := by
  unfold Cr
  split
  · rfl
  · simp
theorem AJG (ts : List Thing) (hl : ts.length < 16777216) : Tf [.list (ts.map encD)] = some (.bool (decide (Fi (Cr ts)))) := by
  have h1 := zM ts
  have h2 := AFp (Cr ts) (by rw [ADw]; exact hl)
  refine Cv (o := .rt (.bool (decide (Fi (Cr ts))))) rfl ?_ rfl
  unfold Zq
  walk_at "pu"
theorem ADl {α : Type} (f : α → D) (xs : List α) (lo hi : Option Int) : ∃ ys : List α, cutD (xs.map f) lo hi = ys.map f ∧ ys.length ≤ xs.length := by
  refine ⟨(xs.drop (HT.De xs.length 0 lo)).take (HT.De xs.length xs.length hi - HT.De xs.length 0 lo), ?_, ?_⟩
  · unfold cutD
    rw [List.length_map, List.map_take, List.map_drop]
  · rw [List.length_take, List.length_drop]
    omega
theorem AI2 (ts : List Thing) (hl : ts.length < 16777216) {fi : BW} {ρ : Bf} (h : fi ρ = some (ts.map encD)) : CT fi (Ca 0) (Ax (Ac Bu (Aa 0) (Be Ae))) (Aa 0) 1 [] ρ = some ((ts.filter FJ).map encD) := by
  rw [Hv h (by simpa using hl), Np encD FJ encD]
  intro t _
  refine ⟨_, rfl, ?_, fun _ => rfl⟩
  show Ax _ [some (encD t)] = some (!decide (t = none))
  walk_at "pu"
end LL
namespace LL
open PySem L2
abbrev Pr := Int × Int
abbrev PP := List (Nat × Pr)
def Et : Nat → List Thing → PP
  | _, [] => []
  | k, none :: r => Et (k + 1) r
  | k, some x :: r => (k, x) :: Et (k + 1) r
theorem Yz : ∀ (s : List Thing) (k : Nat), ∀ p ∈ Et k s, k ≤ p.1 ∧ p.1 < k + s.length
  | [], k, p, h => by cases h
  | none :: r, k, p, h => by
    have := Yz r (k + 1) p h
    simp; omega
  | some x :: r, k, p, h => by
    rcases List.mem_cons.mp h with rfl | h
    · simp
    · have := Yz r (k + 1) p h
      simp; omega
theorem dF : ∀ (s : List Thing) (k : Nat), (Et k s).map (·.2) = things s
  | [], _ => rfl
  | none :: r, k => dF r (k + 1)
  | some x :: r, k => by
    show x :: (Et (k + 1) r).map (·.2) = x :: things r
    rw [dF r (k + 1)]
structure Mv (s : List Thing) (c a : Nat) (x : Pr) (L R : PP) : Prop where
  eq : Et 0 s = L ++ (c, x) :: R
  ne : c ≠ a
  lt : a < s.length
  lo : ∀ p ∈ L, p.1 < c ∧ p.1 < a
  hi : ∀ p ∈ R, c < p.1 ∧ a < p.1
abbrev Tr := Nat × Nat × Pr
def oY (s : List Thing) (t : Tr) : List Thing := (s.set t.2.1 (some t.2.2)).set t.1 none
inductive Run (P : List Thing → Tr → Prop) : List Thing → List Tr → List Thing → Prop
  | nil (s : List Thing) : Run P s [] s
  | cons {s s' : List Thing} {t : Tr} {l : List Tr} : P s t → Run P (oY s t) l s' → Run P s (t :: l) s'
def Up (l : List Tr) : Prop := l.Pairwise fun a b => a.1 < b.1 ∧ a.2.1 < b.2.1
end LL
namespace LL
open PySem L2
def Cp (x : Pr) : D := .tuple [.int x.1, .int x.2]
theorem dG (ts : List Thing) : (ts.filter FJ).map encD = (things ts).map Cp := by
  induction ts with
  | nil => rfl
  | cons t r ih =>
    cases t with
    | none => exact ih
    | some x => rw [oU, List.map_cons, ← ih]; rfl
theorem yE (X : List Pr) : X.map Cp = (X.map some).map encD := by rw [List.map_map]; rfl
theorem AGR (X Y : List Pr) : Bu (.list (X.map Cp)) (.list (Y.map Cp)) = some (.bool (!decide (X = Y))) := by
  rw [yE, yE, d8]
  have e : (X.map some = Y.map some) ↔ X = Y := List.map_inj_right (fun _ _ h => Option.some.inj h)
  rw [decide_eq_decide.mpr e]
def ddF (acc : List Pr) (x : Pr) : List Pr := if acc.getLast? = some x then acc else acc ++ [x]
def dd (X : List Pr) : List Pr := X.foldl ddF []
def z6 (X : List Pr) : Prop := (X.map (·.1)).Pairwise (· < ·)
instance (X : List Pr) : Decidable (z6 X) := inferInstanceAs (Decidable ((X.map (·.1)).Pairwise (· < ·)))
end LL
namespace LL
open PySem L2
structure Gw {α : Type} [DecidableEq α] (e : α → D) (n : Nat) : Prop where
  lay : ∀ a, (e a).canLay0 = true
  dep : ∀ a, (e a).depth ≤ n
  eqv : ∀ a b, PyData.eqv (e a) (e b) = decide (a = b)
section
variable {α β : Type} [DecidableEq α] [DecidableEq β] {e : α → D} {f : β → D} {n m : Nat}
theorem Gw.shaped (h : Gw e n) (hn : n ≤ 64) (a : α) : SeqAt.shaped (e a) = true := by
  unfold SeqAt.shaped
  rw [h.lay a, Bool.true_and]
  exact decide_eq_true (Nat.le_trans (h.dep a) hn)
theorem Gw.Bu (h : Gw e n) (hn : n ≤ 64) (a b : α) : L2.Bu (e a) (e b) = some (.bool (!decide (a = b))) := by
  unfold L2.Bu
  rw [if_pos ⟨h.shaped hn a, h.shaped hn b⟩, h.eqv]
theorem Gw.all (h : Gw e n) : ∀ xs : List α, PyData.canLayAll0 (xs.map e) = true ∧ PyData.depthAll (xs.map e) ≤ n
  | [] => by simp [PyData.canLayAll0, PyData.depthAll]
  | x :: r => by
    have h2 := Gw.all h r
    simp only [List.map_cons, PyData.canLayAll0, PyData.depthAll, h.lay x, h2.1, Bool.and_self, true_and]
    have := h.dep x
    have := h2.2
    omega
theorem Gw.eqvAll (h : Gw e n) : ∀ xs ys : List α, PyData.eqvAll (xs.map e) (ys.map e) = decide (xs = ys)
  | [], [] => by simp [PyData.eqvAll]
  | [], _ :: _ => by simp [PyData.eqvAll]
  | _ :: _, [] => by simp [PyData.eqvAll]
  | x :: r, y :: q => by
    simp only [List.map_cons, PyData.eqvAll, h.eqv, Gw.eqvAll h r q]
    by_cases h1 : x = y <;> by_cases h2 : r = q <;> simp [h1, h2]
theorem Gw.list (h : Gw e n) : Gw (fun xs : List α => PyData.list (xs.map e)) (n + 1) :=
  ⟨fun xs => by simp only [PyData.canLay0]; exact (h.all xs).1, fun xs => by simp only [PyData.depth]; have := (h.all xs).2; omega, fun xs ys => by simp only [PyData.eqv]; exact h.eqvAll xs ys⟩
end
theorem AEx : Gw PyData.int 0 := ⟨fun a => rfl, fun a => by simp [PyData.depth], fun a b => by simp [PyData.eqv, Bool.beq_eq_decide_eq]⟩
def G5 (n : Nat) : D := .int (n : Int)
theorem jD : Gw encD 1 := ⟨fun t => (WW t).1, fun t => (WW t).2, YB⟩
theorem pD : ∀ (ts : List Thing) (k : Nat), ((List.range' k ts.length).filter fun i => FJ (ts.getD (i - k) none)) = (Et k ts).map (·.1)
  | [], _ => rfl
  | t :: r, k => by
    rw [List.length_cons, List.range'_succ, List.filter_cons]
    have ih := pD r (k + 1)
    have e : (List.range' (k + 1) r.length).filter (fun i => FJ ((t :: r).getD (i - k) none)) = (List.range' (k + 1) r.length).filter (fun i => FJ (r.getD (i - (k + 1)) none)) := by
      apply List.filter_congr
      intro i hi
      have := List.mem_range'.mp hi
      obtain ⟨j, hj, rfl⟩ := this
      have e1 : k + 1 + 1 * j - k = j + 1 := by omega
      have e2 : k + 1 + 1 * j - (k + 1) = j := by omega
      rw [e1, e2]
      rfl
    rw [e, ih, Nat.sub_self]
    cases t with
    | none => rfl
    | some x => rfl
structure AKc (s : List Thing) (t : Tr) : Prop where
  free : s[t.2.1]? = some none
  lt : t.2.1 < s.length
  here : s[t.1]? = some (some t.2.2)
  mid : dd (things (s.set t.2.1 (some t.2.2))) = things s
  few : (things (s.set t.2.1 (some t.2.2))).length = (things s).length + 1
  fin : things (oY s t) = things s
end LL
namespace LKa
open PySem L2
def ZR : Am := (Al (Ay 2 (Gv (CT (DX (Aa 0)) (Ca 0) (Ax (Ac Bu (Aa 0) (Be Ae))) (Aa 0) 1 []))) (Al (Ay 3 (vS (Ac BV (Aa 1) (Ac G9 (Ad (.int 10)) (Ad (.int 58)))))) (Al (Bq (Ft (Ax (Ac Bj (Aa 2) (Aw (Bm Ae)))) (Ax (Ac Bj (Ac BV (Aa 1) (Ad (.int 5))) (Ad (.int 4)))))
      (Bh (Ac Av (Aw (Bm (Ab (Aa 3) (Ab (Ma M9 (Aa 3)) Ae)))) (Ac BV (Ac CJ (Aa 1) (Ad (.int 5))) (Ad (.int 2))))) CQ)
    (Bh (Ac Ck (Ac Av (Ac Av (Aa 2) (Ac BV (Ac CJ (Aa 1) (Ad (.int 5))) (Ai CN (Ab (Aa 2) Ae)))) (Ad (.int 0))) (Ac Av (Aw (Bm (Ab (Ma M9 (Ad (.int 1))) (Ab (Ad (.int 0)) (Ab (Ad (.int 1)) (Ab (Ad (.int 2)) Ae)))))) (Ac BV (Ac CJ (Aa 1) (Ad (.int 500))) (Ad (.int 4)))))))))
def AJm : List D → Option D := Ba 2 4 ZR
end LKa
namespace LKb
open PySem L2
def ZR : Am := (Al (Ay 3 (vS (Ac BV (Aa 1) (Ac G9 (Ad (.int 10)) (Ad (.int 50)))))) (Al (Bq (Ax (Ac Bj (Aa 0) (Aw (Bm Ae))))
      (Bh (Aa 3)) CQ)
    (Al (Ay 4 (vS (Ac BV (Ac Av (Aw (Bm (Ab (Ac CJ (Aa 1) (Ad (.int 7))) (Ab (Ac CJ (Ai CN (Ab (Aa 0) Ae)) (Ad (.int 2))) Ae)))) (Ai Kd (Ab (Aa 2) Ae))) (Ac Ck (Ai CN (Ab (Aa 0) Ae)) (Ad (.int 1))))))
    (Al (Ay 5 (vS (Ac Av (Aw (Bm (Ab (Ad (.int 1000)) (Ab (Ac G9 (Ad (.int 10)) (Ad (.int 48))) Ae)))) (Ai Kd (Ab (Tz (Aa 2) (Ac Bj (Ac BV (Ac CJ (Aa 1) (Ad (.int 7))) (Ad (.int 2))) (Ad (.int 1)))) Ae)))))
    (Al (Bq (Ax (Ac Bj (Aa 4) (Ad (.int 0))))
      (Bh (Ac Ed (Ac Ed (Ac Av (Aa 0) (Ad (.int 0))) (Ad (.int 1))) (Ac BV (Aa 3) (Aa 5)))) CQ)
    (Al (Bq (Ax (Ac Bj (Aa 4) (Ai CN (Ab (Aa 0) Ae))))
      (Bh (Ac Ck (Ac Ck (Ac Av (Aa 0) (Ma M9 (Ad (.int 1)))) (Ad (.int 1))) (Ac BV (Aa 3) (Aa 5)))) CQ)
    (Bh (Ac Ck (Ac Ck (Ac Av (Aa 0) (Ac Ed (Aa 4) (Ad (.int 1)))) (Ad (.int 1))) (Ac BV (Aa 3) (Ai Mr (Ab (Ad (.int 1)) (Ab (Ac Ed (Ac Ed (Ac Av (Aa 0) (Aa 4)) (Ac Av (Aa 0) (Ac Ed (Aa 4) (Ad (.int 1))))) (Ad (.int 1))) Ae))))))))))))
def AJm : List D → Option D := Ba 3 6 ZR
end LKb
namespace LL
open PySem L2
def cnt (ts : List Thing) (a b : Nat) : Nat := (things ((ts.drop a).take (b - a))).length
end LL
namespace LKa
open PySem L2 LL
end LKa
namespace LKb
open PySem L2 LL
end LKb
namespace LL
open PySem L2
def xQ (w s h : Nat) : Nat := s / (2 ^ h * w) * (2 ^ h * w)
def AIt (ts : List Thing) (w st s h : Nat) : Prop := (cnt ts (xQ w s h) (xQ w s h + 2 ^ h * w) : Int) < 2 ^ h * ((w : Int) - h * st)
end LL
namespace LL
open PySem L2
theorem Zi (k : Nat) : tw (k : Int) = ((2 ^ k : Nat) : Int) := by
  unfold tw
  rw [Int.toNat_natCast]
  exact (Int.natCast_pow 2 k).symm
theorem Oi {k w : Nat} (hk : k ≤ 4) (w1 : 1 ≤ w) (w20 : w ≤ 20) : 1 ≤ 2 ^ k * w ∧ 2 ^ k * w ≤ 320 := by
  have : k = 0 ∨ k = 1 ∨ k = 2 ∨ k = 3 ∨ k = 4 := by omega
  rcases this with rfl | rfl | rfl | rfl | rfl <;> omega
instance (ts : List Thing) (w st s h : Nat) : Decidable (AIt ts w st s h) := Int.decLt _ _
end LL
namespace LL
def cl (p n a : Nat) : Nat := (a * n + p - 1) / p
end LL
namespace LL
open PySem L2
theorem AIp (cs : List Int) (hl : cs.length < 16777216) {fi : BW} {ρ : Bf} (h : fi ρ = some (cs.map PyData.int)) : ∃ zs : List Int, CT fi (Ca 0) Cu (Ai J5 (Ab (Aa 0) Ae)) 1 [] ρ = some (zs.map PyData.int) ∧ zs.length = cs.length ∧ ∀ z ∈ zs, 0 ≤ z := by
  refine ⟨cs.map fun c => (Qs c).choose, ?_, List.length_map _, ?_⟩
  · rw [Hv h (by simpa using hl), Oz PyData.int (fun c => .int (Qs c).choose), List.map_map]
    · rfl
    · intro c _
      exact ⟨_, rfl, (Qs c).choose_spec.1⟩
  · intro z hz
    obtain ⟨c, _, rfl⟩ := List.mem_map.mp hz
    exact (Qs c).choose_spec.2
theorem AHa (ns : List Int) (lo hi : Option Int) : ∃ cs : List Int, cutD (ns.map PyData.int) lo hi = cs.map PyData.int ∧ cs.length ≤ ns.length := ADl PyData.int ns lo hi
end LL
namespace LL
open PySem L2
theorem uR (n : Nat) (h : n < 16777216) : Em [.int (n : Int)] = some ((List.range n).map fun i : Nat => .int (i : Int)) := by
  rw [R7 _ ⟨by omega, by omega⟩]
  unfold Gm
  rw [Int.toNat_natCast]
  congr 1
  apply List.map_congr_left
  intro i _
  show PyData.int (0 + (i : Int)) = .int (i : Int)
  rw [Int.zero_add]
theorem Vk (ns : List Int) : JV (ns.map PyData.int) = some ns := by
  induction ns with
  | nil => rfl
  | cons n ns ih => simp [JV, ih]
theorem w6 (ns : List Int) : Ua [.list (ns.map PyData.int)] = some (.int ns.sum) := by
  show (JV (ns.map PyData.int)).bind _ = _
  rw [Vk]
  rfl
def WK (ts : List Thing) (i : Nat) : D := .tuple [.int (i : Int), encD (ts.getD i none)]
theorem AHK (ts : List Thing) : Jg (ts.map encD) = (List.range ts.length).map (WK ts) := by
  unfold Jg
  apply List.ext_getElem?
  intro i
  rw [List.getElem?_map, List.getElem?_zipIdx, List.getElem?_map, List.getElem?_map]
  by_cases h : i < ts.length
  · rw [List.getElem?_range h]
    simp [h, WK]
  · rw [List.getElem?_eq_none (show ts.length ≤ i by omega), List.getElem?_eq_none (show (List.range ts.length).length ≤ i by simp; omega)]
    rfl
def Qk (f : Nat → Int) : Nat → Int
  | 0 => 0
  | n + 1 => Qk f n + f n
def PL (ts : List Thing) (w st l k : Nat) : Int := max 0 ((cnt ts (k * (2 ^ l * w)) (k * (2 ^ l * w) + 2 ^ l * w) : Int) - 2 ^ l * ((w : Int) - st * ((l : Int) + 1)))
def Ng (ts : List Thing) (w st l : Nat) : Int := Qk (PL ts w st l) (ts.length / (2 ^ l * w))
def j7 (ts : List Thing) (w st hh : Nat) : Int := Qk (Ng ts w st) hh
theorem gR : ∀ (s : List Thing) (k a b : Nat), (things ((s.drop a).take (b - a))).length = ((Et k s).filter fun p => decide (k + a ≤ p.1) && decide (p.1 < k + b)).length
  | [], k, a, b => by simp [Et, things]
  | t :: r, k, a, b => by
    have hge := Yz r (k + 1)
    by_cases hb : b = 0
    · subst hb
      have AEe := Yz (t :: r) k
      rw [Nat.zero_sub, List.take_zero]
      have : ((Et k (t :: r)).filter fun p => decide (k + a ≤ p.1) && decide (p.1 < k + 0)) = [] := by
        rw [List.filter_eq_nil_iff]
        intro p hp
        have := AEe p hp
        simp
        omega
      rw [this]
      rfl
    obtain ⟨b', rfl⟩ : ∃ b', b = b' + 1 := ⟨b - 1, by omega⟩
    cases a with
    | zero =>
      rw [List.drop_zero, Nat.sub_zero, List.take_succ_cons]
      have ih := gR r (k + 1) 0 b'
      rw [List.drop_zero, Nat.sub_zero] at ih
      have e : ((Et (k + 1) r).filter fun p => decide (k + 1 + 0 ≤ p.1) && decide (p.1 < k + 1 + b')) = ((Et (k + 1) r).filter fun p => decide (k + 0 ≤ p.1) && decide (p.1 < k + (b' + 1))) := by
        apply List.filter_congr
        intro p hp
        have := hge p hp
        rw [Bool.eq_iff_iff]
        simp only [Bool.and_eq_true, decide_eq_true_eq]
        omega
      rw [e] at ih
      cases t with
      | none => exact ih
      | some x =>
        have h1 : (decide (k + 0 ≤ k) && decide (k < k + (b' + 1))) = true := by simp
        show (x :: things (r.take b')).length = (((k, x) :: Et (k + 1) r).filter _).length
        rw [List.filter_cons, if_pos h1, List.length_cons, List.length_cons, ih]
    | succ a' =>
      rw [List.drop_succ_cons, Nat.add_sub_add_right, gR r (k + 1) a' b']
      have e : ((Et (k + 1) r).filter fun p => decide (k + 1 + a' ≤ p.1) && decide (p.1 < k + 1 + b')) = ((Et (k + 1) r).filter fun p => decide (k + (a' + 1) ≤ p.1) && decide (p.1 < k + (b' + 1))) := by
        apply List.filter_congr
        intro p hp
        rw [Bool.eq_iff_iff]
        simp only [Bool.and_eq_true, decide_eq_true_eq]
        omega
      rw [e]
      cases t with
      | none => rfl
      | some x =>
        have h1 : ¬ (decide (k + (a' + 1) ≤ k) && decide (k < k + (b' + 1))) = true := by simp
        show _ = (((k, x) :: Et (k + 1) r).filter _).length
        rw [List.filter_cons, if_neg h1]
theorem AHb (s : List Thing) (a b : Nat) : cnt s a b = (((Et 0 s).map (·.1)).filter fun p => decide (a ≤ p) && decide (p < b)).length := by
  unfold cnt
  rw [gR s 0 a b, List.filter_map, List.length_map]
  congr 1
  apply List.filter_congr
  intro p _
  simp
end LL
namespace LL
open PySem L2
def dC : Am := (Ay 1 (vS (Ac DR (Aa 1) (Ad (.int 2)))))
def gJ : Am := (Al (Ay 1 (vS (Ad (.int 1)))) (Al (Hk (BX Em (Ab (Aa 0) Ae)) (J3 2) dC) (Bh (Aa 1))))
def Lk : List D → Option D := Ba 1 3 gJ
def bY : Am := (Al (Ay 2 (vS (Ac Av (Aa 0) (Ad (.int 1))))) (Bh (Ac DR (Ai Lk (Ab (Aa 1) Ae)) (Aa 2))))
def Jt : List D → Option D := Ba 2 3 bY
def ACl : Am := (Al (Ay 3 (vS (Ai Jt (Ab (Aa 0) (Ab (Aa 1) Ae))))) (Al (Ay 4 (vS (Ac DR (Ac CJ (Aa 2) (Aa 3)) (Aa 3)))) (Bh (Be (Ab (Aa 4) (Ab (Ac Ck (Aa 4) (Aa 3)) Ae))))))
def vP : List D → Option D := Ba 3 5 ACl
def fH : Am := (Al (Ay 2 (vS (Ac Av (Aa 0) (Ad (.int 1))))) (Al (Ay 3 (vS (Ac Av (Aa 0) (Ad (.int 2))))) (Bh (Ac DR (Ai Lk (Ab (Aa 1) Ae)) (Ac Ed (Aa 2) (Ac DR (Aa 3) (Aa 1)))))))
def HD : List D → Option D := Ba 2 4 fH
def aD : Am := (Al (Ay 2 (vS (Ac Av (Aa 0) (Ad (.int 1))))) (Al (Ay 3 (vS (Ac Av (Aa 0) (Ad (.int 2))))) (Bh (Ac DR (Ai Lk (Ab (Aa 1) Ae)) (Ac Ed (Aa 2) (Ac DR (Aa 3) (Ac Ck (Aa 1) (Ad (.int 1)))))))))
def Tg : List D → Option D := Ba 2 4 aD
def AFj : Am := (Dr (CT (BX Em (Ab (Aa 0) Ae)) (Ca 0) Cu (Ac CJ (Ac DR (Aa 0) (Aa 2)) (Aa 1)) 1 [0, 1]))
def rO : List D → Option (List D) := Ci 2 2 AFj
def JH : Am := (Bq (GX (Ax (Ac Bu (Aa 3) (Be Ae))) (Ax (Ac Bj (Ac Av (Aa 3) (Ad (.int 0))) (Aa 1))))
        (Bh (Aa 2)) CQ)
def X5 : Am := (Al (Hk (BX LQ (Ab (Aa 0) Ae)) (Fo 2 3) JH) (Bh (Ad .none)))
def Ho : List D → Option D := Ba 2 4 X5
def AFV : Am := (Bq (GX (Ax (Ac Bu (Aa 4) (Be Ae))) (Ax (Ac Ha (Ac Av (Aa 4) (Ad (.int 0))) (Aa 1))))
        (Ay 2 (vS (Aa 3))) CQ)
def AFd : Am := (Al (Ay 2 (vS (Ad (.int 0)))) (Al (Hk (BX LQ (Ab (Aa 0) Ae)) (Fo 3 4) AFV) (Bh (Aa 2))))
def rJ : List D → Option D := Ba 2 5 AFd
def AEb : Am := (Al (Ay 6 (vS (Ai vP (Ab (Aa 0) (Ab (Aa 5) (Ab (Aa 4) Ae))))))
      (Bq (Ax (Ac Ha (Ai Gk (Ab (Aa 2) (Ab (Ac Av (Aa 6) (Ad (.int 0))) (Ab (Ac Av (Aa 6) (Ad (.int 1))) Ae)))) (Ai HD (Ab (Aa 0) (Ab (Aa 5) Ae)))))
        (Bh (Aa 5)) CQ))
def AGf : Am := (Al (Ay 4 (vS (Ai rJ (Ab (Aa 2) (Ab (Aa 3) Ae))))) (Al (Hk (BX Em (Ab (Ac Ck (Aa 1) (Ad (.int 1))) Ae)) (J3 5) AEb) (Bh (Ad .none))))
def ABi : List D → Option D := Ba 4 7 AGf
def gQ : Am := (Bh (Ai Mr (Ab (Ad (.int 0)) (Ab (Ac Ed (Aa 0) (Aa 1)) Ae))))
def MP : List D → Option D := Ba 2 2 gQ
def iJ : Am := (Al (Ay 3 (vS (Ai Jt (Ab (Aa 0) (Ab (Aa 1) Ae))))) (Al (Ay 4 (vS (Ai Tg (Ab (Aa 0) (Ab (Aa 1) Ae))))) (Bh (Ai Ua (Ab (Aw (CT (BX RM (Ab (Ad (.int 0)) (Ab (Ai CN (Ab (Aa 2) Ae)) (Ab (Aa 3) Ae)))) (Ca 0) Cu (Ai MP (Ab (Ai Gk (Ab (Aa 2) (Ab (Aa 0) (Ab (Ac Ck (Aa 0) (Aa 3)) Ae)))) (Ab (Aa 1) Ae))) 1 [4, 2, 3])) Ae)))))
def PQ : List D → Option D := Ba 3 5 iJ
def aU : Am := (Bh (Ai Ua (Ab (Aw (CT (BX Em (Ab (Aa 1) Ae)) (Ca 0) Cu (Ai PQ (Ab (Aa 1) (Ab (Aa 0) (Ab (Aa 2) Ae)))) 1 [0, 2])) Ae)))
def QR : List D → Option D := Ba 3 3 aU
def dU : Am := (Al (Ay 3 (vS (Xz (Ax (Ac Bj (Aa 1) (Ad (.int 0)))) (Ad (.int 0)) (Ai HD (Ab (Aa 0) (Ab (Ac Ed (Aa 1) (Ad (.int 1))) Ae)))))) (Bh (Ai MP (Ab (Ai Gk (Ab (Aa 2) (Ab (Ad (.int 0)) (Ab (Ai CN (Ab (Aa 2) Ae)) Ae)))) (Ab (Aa 3) Ae)))))
def RV : List D → Option D := Ba 3 4 dU
theorem iY (h : Nat) (hh : h < 1000) : Lk [.int (h : Int)] = some (.int (2 ^ h)) := by
  have loop := iR (bs := J3 2) (F := dC) (lo := 0) (fun i ρ => ∃ s2, ρ = [.sh (.int (h : Int)), .sh (.int (2 ^ i)), s2]) h ?_ [.sh (.int (h : Int)), .sh (.int 1), .no] ⟨_, rfl⟩
  · obtain ⟨ρ', hf, s2, rfl⟩ := loop
    have hr := R7 (h : Int) ⟨by omega, by omega⟩
    rw [Int.toNat_natCast] at hr
    generalize (2 : Int) ^ h = P at *
    refine Cv (o := .rt (.int P)) rfl ?_ rfl
    unfold gJ
    refine Bp (ρ' := [.sh (.int (h : Int)), .sh (.int 1), .no]) (by clear hf; walk_at "pu") ?_
    refine Bp ((Mm (items := Gm 0 h) (by clear hf; walk_at "pu")).trans hf) (by clear hf hr; walk_at "pu")
  · rintro i ρ hi ⟨s2, rfl⟩
    rw [Int.zero_add]
    refine ⟨_, [.sh (.int (h : Int)), .sh (.int (2 ^ (i + 1))), .sh (.int (i : Int))], rfl, ?_, _, rfl⟩
    rw [Int.pow_succ]
    generalize (2 : Int) ^ i = P
    unfold dC
    clear hi hh
    walk_at "pu"
theorem gA {h : Nat} (hh : h ≤ 4) : -18446744073709551616 < (2 : Int) ^ h ∧ (2 : Int) ^ h < 18446744073709551616 := by
  match h, hh with
  | 0, _ => decide
  | 1, _ => decide
  | 2, _ => decide
  | 3, _ => decide
  | 4, _ => decide
theorem places_eq {t : Int} {w st h : Nat} (hh : h ≤ 4) : Jt [.tuple [.int t, .int (w : Int), .int (st : Int)], .int (h : Int)] = some (.int ((2 ^ h * w : Nat) : Int)) := by
  have h2 := iY h (by omega)
  have hs := gA hh
  rw [Int.natCast_mul, Int.natCast_pow, show ((2 : Nat) : Int) = 2 from rfl]
  generalize (2 : Int) ^ h = P at *
  refine Cv (o := .rt (.int _)) rfl ?_ rfl
  unfold bY
  clear hh
  walk_at "pu"
theorem gC {t : Int} {w st h : Nat} (hh : h ≤ 4) (Fw : st ≤ 20) : HD [.tuple [.int t, .int (w : Int), .int (st : Int)], .int (h : Int)] = some (.int (2 ^ h * ((w : Int) - (h : Int) * (st : Int)))) := by
  have h2 := iY h (by omega)
  have hs := gA hh
  have hs2 : -18446744073709551616 < (st : Int) ∧ (st : Int) < 18446744073709551616 := by omega
  rw [Int.mul_comm (h : Int) (st : Int)]
  generalize (2 : Int) ^ h = P at *
  refine Cv (o := .rt (.int _)) rfl ?_ rfl
  unfold fH
  clear hh Fw
  walk_at "pu"
theorem calm_eq {t : Int} {w st h : Nat} (hh : h ≤ 4) (Fw : st ≤ 20) : Tg [.tuple [.int t, .int (w : Int), .int (st : Int)], .int (h : Int)] = some (.int (2 ^ h * ((w : Int) - (st : Int) * ((h : Int) + 1)))) := by
  have h2 := iY h (by omega)
  have hs := gA hh
  have hs2 : -18446744073709551616 < (st : Int) ∧ (st : Int) < 18446744073709551616 := by omega
  generalize (2 : Int) ^ h = P at *
  refine Cv (o := .rt (.int _)) rfl ?_ rfl
  unfold aD
  clear hh Fw
  walk_at "pu"
theorem mU (a b : Int) : MP [.int a, .int b] = some (.int (max 0 (a - b))) := by
  refine Cv (o := .rt (.int _)) rfl ?_ rfl
  unfold gQ
  walk_at "pu"
theorem held_eq (ts : List Thing) (hl : ts.length < 16777216) (a b : Nat) : Gk [.list (ts.map encD), .int (a : Int), .int (b : Int)] = some (.int (cnt ts a b : Int)) := by
  have hc : CT (BX LQ (Ab (Aa 0) Ae)) (Ks 0 1) (GX (Ax (Je Ih Ha (Aa 2) (Aa 0) (Aa 3))) (Ax (Ac Bu (Aa 1) (Be Ae)))) (Aa 1) 2 [1, 2] [some (.list (ts.map encD)), some (.int (a : Int)), some (.int (b : Int))] =
      some (((List.range ts.length).filter fun i => (decide (a ≤ i) && decide (i < b)) && FJ (ts.getD i none)).map fun i => encD (ts.getD i none)) := by
    rw [Hv (items := (List.range ts.length).map (WK ts)) (by rw [← AHK]; walk_at "pu") (by simpa using hl), Np (WK ts) (fun i => (decide (a ≤ i) && decide (i < b)) && FJ (ts.getD i none)) fun i => encD (ts.getD i none)]
    intro i hi
    refine ⟨[some (.int (i : Int)), some (encD (ts.getD i none)), some (.int (a : Int)), some (.int (b : Int))], rfl, ?_, fun _ => rfl⟩
    have e1 : decide ((a : Int) ≤ (i : Int)) = decide (a ≤ i) := by simp
    have e2 : decide ((i : Int) < (b : Int)) = decide (i < b) := by simp
    have e3 : FJ (ts.getD i none) = !decide (ts.getD i none = none) := rfl
    rw [e3]
    generalize ts.getD i none = u at *
    clear hi hl e3
    by_cases c1 : a ≤ i
    · by_cases c2 : i < b
      · have c1' : (a : Int) ≤ (i : Int) := by omega
        have c2' : (i : Int) < (b : Int) := by omega
        clear e1 e2
        walk_at "pu"
      · have c1' : (a : Int) ≤ (i : Int) := by omega
        have c2' : ¬ (i : Int) < (b : Int) := by omega
        clear e1 e2
        walk_at "pu"
    · have c1' : ¬ (a : Int) ≤ (i : Int) := by omega
      clear e1 e2
      walk_at "pu"
  have hn : ((List.range ts.length).filter fun i => (decide (a ≤ i) && decide (i < b)) && FJ (ts.getD i none)).length = cnt ts a b := by
    rw [AHb, ← pD, List.filter_filter, ← List.range_eq_range']
    refine congrArg List.length (List.filter_congr fun i _ => ?_)
    rw [Nat.sub_zero]
  refine Cv (o := .rt (.int _)) rfl ?_ rfl
  unfold cO
  rw [← hn]
  generalize ((List.range ts.length).filter fun i => (decide (a ≤ i) && decide (i < b)) && FJ (ts.getD i none)) = X at *
  clear hn hl
  walk_at "pu"
theorem yH (ts : List Thing) : cnt ts 0 ts.length = (things ts).length := by
  unfold cnt
  simp
def Jf (k : Int) : Nat → List Thing → Option Nat
  | _, [] => none
  | i, none :: r => Jf k (i + 1) r
  | i, some x :: r => if x.1 = k then some i else Jf k (i + 1) r
theorem Vo {k : Int} : ∀ (ts : List Thing) (i : Nat), Jf k i ts = none ↔ k ∉ keysOf ts
  | [], i => by simp [Jf, keysOf]
  | none :: r, i => by rw [Jf, AAa]; exact Vo r (i + 1)
  | some x :: r, i => by
    rw [Jf, YQ]
    have ih := Vo (k := k) r (i + 1)
    split
    · rename_i h
      simp [h]
    · rename_i h
      rw [ih, List.mem_cons, not_or]
      exact ⟨fun q => ⟨fun e => h e.symm, q⟩, fun q => q.2⟩
theorem jH (L : D) (k : Int) : ∀ (ts : List Thing) (i : Nat) (s2 s3 : Sl), (∃ s2' s3', Jf k i ts = none ∧ Dl (Fo 2 3) JH ((ts.map encD).zipIdx i |>.map fun p => .tuple [.int (p.2 : Nat), p.1]) [.sh L, .sh (.int k), s2, s3] = some (.nx [.sh L, .sh (.int k), s2', s3'])) ∨ (∃ p, Jf k i ts = some p ∧ Dl (Fo 2 3) JH ((ts.map encD).zipIdx i |>.map fun p => .tuple [.int (p.2 : Nat), p.1]) [.sh L, .sh (.int k), s2, s3] = some (.rt (.int (p : Int))))
  | [], i, s2, s3 => .inl ⟨s2, s3, rfl, rfl⟩
  | none :: r, i, s2, s3 => by
    have hstep : JH [.sh L, .sh (.int k), .sh (.int (i : Int)), .sh (encD none)] = some (.nx [.sh L, .sh (.int k), .sh (.int (i : Int)), .sh (encD none)]) := by
      unfold JH
      walk_at "pu"
    have h1 := Rk (bs := Fo 2 3) (F := JH) (d := .tuple [.int (i : Int), encD none]) (ds := ((r.map encD).zipIdx (i + 1) |>.map fun p => .tuple [.int (p.2 : Nat), p.1])) (ρ := [.sh L, .sh (.int k), s2, s3]) rfl hstep
    rcases jH L k r (i + 1) (.sh (.int (i : Int))) (.sh (encD none)) with ⟨a, b, q1, q2⟩ | ⟨p, q1, q2⟩
    · exact .inl ⟨a, b, q1, h1.trans q2⟩
    · exact .inr ⟨p, q1, h1.trans q2⟩
  | some x :: r, i, s2, s3 => by
    have hx : encD (some x) = .tuple [.int x.1, .int x.2] := rfl
    have hne : Bu (.tuple [.int x.1, .int x.2]) (.tuple []) = some (.bool true) := by rfl
    by_cases hk : x.1 = k
    · have hstep : JH [.sh L, .sh (.int k), .sh (.int (i : Int)), .sh (encD (some x))] = some (.rt (.int (i : Int))) := by
        unfold JH
        rw [hx]
        clear hx
        subst hk
        walk_at "pu"
      exact .inr ⟨i, by rw [Jf, if_pos hk], rQ (bs := Fo 2 3) (F := JH) (d := .tuple [.int (i : Int), encD (some x)]) rfl hstep⟩
    · have hstep : JH [.sh L, .sh (.int k), .sh (.int (i : Int)), .sh (encD (some x))] = some (.nx [.sh L, .sh (.int k), .sh (.int (i : Int)), .sh (encD (some x))]) := by
        unfold JH
        rw [hx]
        clear hx
        walk_at "pu"
      have h1 := Rk (bs := Fo 2 3) (F := JH) (d := .tuple [.int (i : Int), encD (some x)]) (ds := ((r.map encD).zipIdx (i + 1) |>.map fun p => .tuple [.int (p.2 : Nat), p.1])) (ρ := [.sh L, .sh (.int k), s2, s3]) rfl hstep
      rcases jH L k r (i + 1) (.sh (.int (i : Int))) (.sh (encD (some x))) with ⟨a, b, q1, q2⟩ | ⟨p, q1, q2⟩
      · exact .inl ⟨a, b, by rw [Jf, if_neg hk]; exact q1, h1.trans q2⟩
      · exact .inr ⟨p, by rw [Jf, if_neg hk]; exact q1, h1.trans q2⟩
theorem Vy (ts : List Thing) (k : Int) : Ho [.list (ts.map encD), .int k] = some (wY (Jf k 0 ts)) := by
  rcases jH (.list (ts.map encD)) k ts 0 .no .no with ⟨a, b, q1, q2⟩ | ⟨p, q1, q2⟩
  · refine Cv (o := .rt .none) rfl ?_ (by rw [q1]; rfl)
    unfold X5
    refine Bp ((Mm (items := Jg (ts.map encD)) (by clear q1 q2; walk_at "pu")).trans q2) (by clear q1 q2; walk_at "pu")
  · refine Cv (o := .rt (.int (p : Int))) rfl ?_ (by rw [q1]; rfl)
    unfold X5
    exact Mf ((Mm (items := Jg (ts.map encD)) (by clear q1 q2; walk_at "pu")).trans q2)
theorem aN (f : Nat → Int) : ∀ n, ((List.range n).map f).sum = Qk f n
  | 0 => rfl
  | n + 1 => by
    rw [List.range_succ, List.map_append, List.sum_append, aN f n]
    show Qk f n + ([f n]).sum = _
    simp [Qk]
theorem AGd {Z q : Nat} (hZ : 1 ≤ Z) : Ka 0 ((q * Z : Nat) : Int) (Z : Int) = q := by
  unfold Ka
  rw [PyProof.Rows.rangeSize_pos (by omega) (by omega)]
  have e : (((q * Z : Nat) : Int) + (Z : Int) - 1) / (Z : Int) = (q : Int) := by
    rw [show ((q * Z : Nat) : Int) + (Z : Int) - 1 = ((Z : Int) - 1) + (q : Int) * (Z : Int) by rw [Int.natCast_mul]; omega, Int.add_mul_ediv_right _ _ (by omega), Int.ediv_eq_zero_of_lt (by omega) (by omega), Int.zero_add]
  rw [e]
  exact Int.toNat_natCast q
theorem ABl (ts : List Thing) {t : Int} {w st l hh : Nat} (w1 : 1 ≤ w) (w20 : w ≤ 20) (Fw : st ≤ 20) (h4 : hh ≤ 4) (hl : l ≤ hh) (hlen : ts.length = 2 ^ hh * w) :
    PQ [.tuple [.int t, .int (w : Int), .int (st : Int)], .int (l : Int), .list (ts.map encD)] = some (.int (Ng ts w st l)) := by
  have hp := places_eq (t := t) (w := w) (st := st) (h := l) (by omega)
  have hc := calm_eq (t := t) (w := w) (st := st) (h := l) (by omega) Fw
  have hz := Oi (k := l) (w := w) (by omega) w1 w20
  have hz2 := Oi h4 w1 w20
  have hq : ts.length = 2 ^ (hh - l) * (2 ^ l * w) := by
    rw [hlen, ← Nat.mul_assoc, ← Nat.pow_add, show hh - l + l = hh by omega]
  have hd : ts.length / (2 ^ l * w) = 2 ^ (hh - l) := by rw [hq]; exact Nat.mul_div_cancel _ (by omega)
  have hpw : 2 ^ (hh - l) ≤ 2 ^ 4 := Nat.pow_le_pow_right (by decide) (by omega)
  unfold Ng
  rw [hd]
  have hex : ∀ i, PL ts w st l i = max 0 ((cnt ts (i * (2 ^ l * w)) (i * (2 ^ l * w) + 2 ^ l * w) : Int) - 2 ^ l * ((w : Int) - (st : Int) * ((l : Int) + 1))) := fun _ => rfl
  generalize (2 : Int) ^ l * ((w : Int) - (st : Int) * ((l : Int) + 1)) = P at *
  generalize 2 ^ l * w = Z at *
  generalize 2 ^ (hh - l) = q at *
  have hN : Ka 0 (ts.length : Int) (Z : Int) = q := by rw [hq]; exact AGd hz.1
  have hr : RM [.int 0, .int (ts.length : Int), .int (Z : Int)] = some ((List.range q).map fun i : Nat => .int (((i * Z : Nat) : Int))) := by
    show (if 0 ≤ (0 : Int) ∧ (0 : Int) ≤ (ts.length : Int) ∧ (ts.length : Int) < 1000000 ∧ 1 ≤ (Z : Int) ∧ (Z : Int) < 1000000 then some (Ou 0 (Z : Int) (Ka 0 (ts.length : Int) (Z : Int))) else none) = _
    rw [if_pos (by omega), hN]
    unfold Ou
    refine congrArg some (List.map_congr_left fun i _ => ?_)
    rw [Int.zero_add, Int.natCast_mul]
  have Kc : CT (BX RM (Ab (Ad (.int 0)) (Ab (Ai CN (Ab (Aa 2) Ae)) (Ab (Aa 3) Ae)))) (Ca 0) Cu (Ai MP (Ab (Ai Gk (Ab (Aa 2) (Ab (Aa 0) (Ab (Ac Ck (Aa 0) (Aa 3)) Ae)))) (Ab (Aa 1) Ae))) 1 [4, 2, 3]
      [some (.tuple [.int t, .int (w : Int), .int (st : Int)]), some (.int (l : Int)), some (.list (ts.map encD)), some (.int (Z : Int)), some (.int P)] = some (((List.range q).map fun i => PL ts w st l i).map PyData.int) := by
    rw [Hv (items := (List.range q).map fun i : Nat => .int (((i * Z : Nat) : Int))) (by clear hp hc hz hz2 hq hd hpw hex hN hlen; walk_at "pu") (by rw [List.length_map, List.length_range]; omega), Oz (fun i : Nat => (.int (((i * Z : Nat) : Int)) : D)) (fun i => .int (PL ts w st l i)), List.map_map]
    · rfl
    · intro i _
      have hheld := held_eq ts (by omega) (i * Z) (i * Z + Z)
      rw [Int.natCast_add] at hheld
      have hb := mU (cnt ts (i * Z) (i * Z + Z) : Int) P
      have he := hex i
      generalize (cnt ts (i * Z) (i * Z + Z) : Int) = C at *
      generalize ((i * Z : Nat) : Int) = a at *
      refine ⟨[some (.int a), some (.int P), some (.list (ts.map encD)), some (.int (Z : Int))], rfl, ?_⟩
      rw [he]
      clear he hex hp hc hz hz2 hq hd hpw hN hr hlen
      walk_at "pu"
  have hsum := w6 ((List.range q).map fun i => PL ts w st l i)
  rw [aN] at hsum
  refine Cv (o := .rt (.int _)) rfl ?_ rfl
  unfold iJ
  refine Bp (ρ' := [.sh (.tuple [.int t, .int (w : Int), .int (st : Int)]), .sh (.int (l : Int)), .sh (.list (ts.map encD)), .sh (.int (Z : Int)), .no]) (by clear Kc hsum hex hr hN; walk_at "pu") ?_
  refine Bp (ρ' := [.sh (.tuple [.int t, .int (w : Int), .int (st : Int)]), .sh (.int (l : Int)), .sh (.list (ts.map encD)), .sh (.int (Z : Int)), .sh (.int P)]) (by clear Kc hsum hex hr hN; walk_at "pu") ?_
  generalize CT (BX RM (Ab (Ad (.int 0)) (Ab (Ai CN (Ab (Aa 2) Ae)) (Ab (Aa 3) Ae)))) (Ca 0) Cu (Ai MP (Ab (Ai Gk (Ab (Aa 2) (Ab (Aa 0) (Ab (Ac Ck (Aa 0) (Aa 3)) Ae)))) (Ab (Aa 1) Ae))) 1 [4, 2, 3] = CC at *
  generalize ((List.range q).map fun i => PL ts w st l i) = L at *
  generalize PL ts w st l = ea at *
  clear hex hr hN hp hc hz hz2 hq hd hpw
  walk_at "pu"
theorem AEJ (ts : List Thing) (t : Int) (w st hh : Nat) (w1 : 1 ≤ w) (w20 : w ≤ 20) (Fw : st ≤ 20) (h4 : hh ≤ 4) (hlen : ts.length = 2 ^ hh * w) :
    QR [.tuple [.int t, .int (w : Int), .int (st : Int)], .int (hh : Int), .list (ts.map encD)] = some (.int (j7 ts w st hh)) := by
  have hr := uR hh (by omega)
  have Kc : CT (BX Em (Ab (Aa 1) Ae)) (Ca 0) Cu (Ai PQ (Ab (Aa 1) (Ab (Aa 0) (Ab (Aa 2) Ae)))) 1 [0, 2] [some (.tuple [.int t, .int (w : Int), .int (st : Int)]), some (.int (hh : Int)), some (.list (ts.map encD))] = some (((List.range hh).map (Ng ts w st)).map PyData.int) := by
    rw [Hv (items := (List.range hh).map fun i : Nat => .int (i : Int)) (by clear hlen; walk_at "pu") (by rw [List.length_map, List.length_range]; omega), Oz (fun i : Nat => (.int (i : Int) : D)) (fun i => .int (Ng ts w st i)), List.map_map]
    · rfl
    · intro i hi
      have hx := ABl ts (t := t) (l := i) w1 w20 Fw h4 (by have := List.mem_range.mp hi; omega) hlen
      refine ⟨[some (.int (i : Int)), some (.tuple [.int t, .int (w : Int), .int (st : Int)]), some (.list (ts.map encD))], rfl, ?_⟩
      clear hr hi hlen w1 w20 Fw h4
      walk_at "pu"
  have hsum := w6 ((List.range hh).map (Ng ts w st))
  rw [aN] at hsum
  unfold j7
  refine Cv (o := .rt (.int _)) rfl ?_ rfl
  unfold aU
  generalize CT (BX Em (Ab (Aa 1) Ae)) (Ca 0) Cu (Ai PQ (Ab (Aa 1) (Ab (Aa 0) (Ab (Aa 2) Ae)))) 1 [0, 2] = CC at *
  generalize (List.range hh).map (Ng ts w st) = L at *
  generalize Ng ts w st = ea at *
  clear hr hlen w1 w20 Fw h4
  walk_at "pu"
def SJ (w st : Int) : Nat → Int
  | 0 => 0
  | h + 1 => 2 ^ h * (w - st * (h : Int))
theorem AJ2 (ts : List Thing) (t : Int) (w st hh : Nat) (Fw : st ≤ 20) (h4 : hh ≤ 4) (hl : ts.length < 16777216) :
    RV [.tuple [.int t, .int (w : Int), .int (st : Int)], .int (hh : Int), .list (ts.map encD)] = some (.int (max 0 (((things ts).length : Int) - SJ (w : Int) (st : Int) hh))) := by
  have hheld := held_eq ts hl 0 ts.length
  rw [yH] at hheld
  have hb := mU ((things ts).length : Int) (SJ (w : Int) (st : Int) hh)
  rw [show ((0 : Nat) : Int) = 0 from rfl] at hheld
  refine Cv (o := .rt (.int _)) rfl ?_ rfl
  unfold dU
  cases hh with
  | zero =>
    have e : SJ (w : Int) (st : Int) 0 = 0 := rfl
    rw [e] at hb ⊢
    generalize ((things ts).length : Int) = C at *
    clear hl Fw h4 e
    rw [show ((0 : Nat) : Int) = 0 from rfl]
    walk_at "pu"
  | succ g =>
    have hc := gC (t := t) (w := w) (st := st) (h := g) (by omega) Fw
    have e : SJ (w : Int) (st : Int) (g + 1) = 2 ^ g * ((w : Int) - (g : Int) * (st : Int)) := by rw [Int.mul_comm (g : Int)]; rfl
    rw [e] at hb ⊢
    generalize (2 : Int) ^ g * ((w : Int) - (g : Int) * (st : Int)) = P at *
    generalize ((things ts).length : Int) = C at *
    have e2 : (((g + 1 : Nat) : Int) - 1) = (g : Int) := by omega
    have e3 : ((g + 1 : Nat) : Int) ≠ 0 := by omega
    generalize ((g + 1 : Nat) : Int) = G at *
    clear hl Fw h4 e
    walk_at "pu"
end LL
namespace LL
open PySem L2
theorem mZ {α β : Type} (f : α → β) : ∀ (xs : List α) (k : Nat), (xs.map f).eraseIdx k = (xs.eraseIdx k).map f
  | [], _ => rfl
  | _ :: _, 0 => rfl
  | x :: xs, k + 1 => congrArg (f x :: ·) (mZ f xs k)
end LL
namespace LL
open PySem L2
end LL
namespace LL
open PySem L2
def AJN : Am := (Al (Ay 2 (vS (Aw (rA (Ab (Aa 0) (Ab (Aa 1) Ae)))))) (Al (Ay 3 (Gv (CT (BX AH0 (Ab (Aa 2) Ae)) (Ca 0) (Ax (Ac G3 (Ac Av (Aa 0) (Ad (.int 1))) (Ac Av (Aa 0) (Ad (.int 0))))) (Aa 0) 1 []))) (Al (Ay 4 (Gv (CT (DX (Aa 2)) (Ca 0) (Ax (Ac Ha (Ac Av (Aa 0) (Ad (.int 1))) (Ac Av (Aa 0) (Ad (.int 0))))) (Aa 0) 1 []))) (Dr (GF (Aa 3) (Aa 4))))))
def AFl : List D → Option (List D) := Ci 2 5 AJN
def AFo : Am := (Al (Ay 6 (vS (Aw (Bm (Ab (Be (Ab (Aa 5) (Ab (Ac Av (Aa 2) (Aa 4)) Ae))) (Ab (Be (Ab (Aa 4) (Ab (Be Ae) Ae))) Ae))))))
      (Al (Ay 2 (vS (Aw (BX O8 (Ab (Aa 2) (Ab (Aa 6) Ae))))))
      (AIL 3 (vS (Aa 6)))))
def AIx : Am := (Al (Ay 2 (vS (Aa 0))) (Al (Ay 3 (vL (Bm Ae))) (Al (Hk (DX (Aa 1)) (Fo 4 5) AFo) (LR 3))))
def AJj : List D → Option (List D) := Ci 2 7 AIx
def AGh : Am := (Al (Ay 3 (vS (Ac Av (Aa 1) (Ad (.int 0))))) (Al (Ay 4 (vS (Ac Av (Aa 1) (Ad (.int 1))))) (Al (Ay 5 (Gv (CT (BX AG1 (Ab (Aa 3) (Ab (Aa 4) Ae))) (Ca 0) (Ax (Ac Bu (Ac Av (Aa 1) (Aa 0)) (Be Ae))) (Aa 0) 1 [0]))) (Al (Ay 6 (vL (CT (DX (Aw (BX rO (Ab (Ac Ck (Ai CN (Ab (Aa 5) Ae)) (Ad (.int 1))) (Ab (Ac Ed (Aa 4) (Aa 3)) Ae))))) (Ca 0) Cu (Ac Ck (Aa 1) (Aa 0)) 1 [3]))) (Al (Ay 7 (Gv (CT (DX (Aa 5)) (Ca 0) (Ax (Ac Ha (Ac Av (Ac Av (Aa 2) (Aa 0)) (Ad (.int 0))) (Ac Av (Aa 1) (Ad (.int 0))))) (Aa 0) 1 [2, 0]))) (Al (AFQ 8 6 (Ai CN (Ab (Aa 7) Ae))) (Dr (GF (Aw (BX AJj (Ab (Aa 0) (Ab (Aw (BX AFl (Ab (Aa 5) (Ab (Aa 6) Ae)))) Ae)))) (Aw (Bm (Ab (Be (Ab (Aa 8) (Ab (Aa 2) Ae))) Ae)))))))))))
def AHn : List D → Option (List D) := Ci 3 9 AGh
def AJH : Am := (Al (Ay 5 (vS (Ai Ho (Ab (Aa 2) (Ab (Aa 3) Ae))))) (Al (Bq (Ax (Ac Pu (Aa 5) (Ad .none)))
      (Dr (Bm (Ab (Be (Ab (Aa 5) (Ab (Be (Ab (Aa 3) (Ab (Aa 4) Ae))) Ae))) Ae))) CQ)
    (Al (Bq (Ax (Ac Mz (Ai Gk (Ab (Aa 2) (Ab (Ad (.int 0)) (Ab (Ai CN (Ab (Aa 2) Ae)) Ae)))) (Ai HD (Ab (Aa 0) (Ab (Aa 1) Ae)))))
      FN CQ)
    (Al (Ay 6 (vS (Ai ABi (Ab (Aa 0) (Ab (Aa 1) (Ab (Aa 2) (Ab (Aa 3) Ae)))))))
    (Dr (BX AHn (Ab (Aa 2) (Ab (Ai vP (Ab (Aa 0) (Ab (Aa 6) (Ab (Ai rJ (Ab (Aa 2) (Ab (Aa 3) Ae))) Ae)))) (Ab (Be (Ab (Aa 3) (Ab (Aa 4) Ae))) Ae)))))))))
def R1 : List D → Option (List D) := Ci 5 7 AJH
def AEn : Am := (Al (Ay 2 (vS (Ai Ho (Ab (Aa 0) (Ab (Aa 1) Ae))))) (Al (Bq (Ax (Ac J7 (Aa 2) (Ad .none)))
      FN CQ)
    (Dr (Bm (Ab (Be (Ab (Aa 2) (Ab (Be Ae) Ae))) Ae)))))
def lF : List D → Option (List D) := Ci 2 3 AEn
end LL
namespace LL
open PySem L2
def iC : Am := (Bh (Ac Av (Ac Av (Ac Av (Aa 0) (Ad (.int 2))) (Ad (.int 0))) (Ad (.int 0))))
def Ik : List D → Option D := Ba 1 1 iC
def bZ : Am := (Bh (Ac Av (Ac Av (Ac Av (Aa 0) (Ad (.int 2))) (Ad (.int 0))) (Ad (.int 1))))
def Fy : List D → Option D := Ba 1 1 bZ
def kZ : Am := (Dr (Gz (Ac Av (Aa 1) (Ai Ik (Ab (Aa 1) Ae))) Iu (Fj (Ai Jt (Ab (Aa 0) (Ab (Ai Fy (Ab (Aa 1) Ae)) Ae))))))
def Eb : List D → Option (List D) := Ci 2 2 kZ
def Zr : Am := (Qy 2 (Aa 3) (Aa 4) (vS (Aa 5)))
def Uz : Am := (Al (Ay 2 (vN (P0 (DX (Aa 0)) (Ca 0) Cu (BX Il (Ab (Aa 0) Ae)) 1 []))) (Al (Hk (DX (Aa 1)) (Sy 3 4 5) Zr) (Xk 2)))
def HH : List D → Option (List (List D)) := runN 2 6 Uz
def eU : Am := (Dr (CT (DX (Aa 1)) (Ks 0 1) Cu (Be (Ab (Aa 2) (Ab (Aa 0) (Ab (Aa 1) Ae)))) 2 [0]))
def Ln : List D → Option (List D) := Ci 2 2 eU
def ZG : Am := (Al (Ay 6 (vS (Ai Mt (Ab (Aa 0) (Ab (Ac Ck (Ac Ck (Ac DR (Ad (.int 2)) (Aa 5)) (Aa 1)) (Ad (.int 500))) Ae)))))
      (Al (Ay 7 (vS (Ac Ed (Ac BV (Ac CJ (Aa 6) (Ad (.int 3))) (Ad (.int 1000))) (Ad (.int 500)))))
      (Al (Bq (GX (Ax (Ac Bu (Aa 3) (Aw (Bm Ae)))) (Ax (Ac Bj (Ac BV (Ac CJ (Aa 6) (Ad (.int 7))) (Ad (.int 2))) (Ad (.int 0)))))
        (Ay 7 (vS (Ac Ed (Ac Ck (Ac Av (Ac Av (Aa 3) (Ac BV (Ac CJ (Aa 6) (Ad (.int 14))) (Ai CN (Ab (Aa 3) Ae)))) (Ad (.int 0))) (Ac BV (Ac CJ (Aa 6) (Ad (.int 5))) (Ad (.int 3)))) (Ad (.int 1))))) CQ)
      (Od 4 (vS (Ac Av (Aw (Bm (Ab (Be Ae) (Ab (Be (Ab (Aa 7) (Ab (Ac BV (Ac CJ (Aa 6) (Ad (.int 11))) (Ac G9 (Ad (.int 10)) (Ad (.int 6)))) Ae))) Ae)))) (Ai Kd (Ab (Ac G3 (Ac BV (Aa 6) (Ad (.int 3))) (Ad (.int 0))) Ae))))))))
def Zt : Am := (Al (Ay 4 (vL (Bm Ae))) (Al (Hk (BX Em (Ab (Aa 2) Ae)) (J3 5) ZG) (LR 4)))
def Ms : List D → Option (List D) := Ci 4 8 Zt
def aB : Am := (Al (Ay 5 (vS (Aw (CT (DX (Aa 3)) (Ca 0) (Ax (Ac Bu (Aa 0) (Be Ae))) (Aa 0) 1 [])))) (Al (Ay 6 (vL (CT (BX Em (Ab (Ad (.int 2)) Ae)) (Ca 0) Cu (Aw (BX Ms (Ab (Aa 1) (Ab (Aa 0) (Ab (Ac DR (Ai Jz (Ab (Ac Av (Aa 3) (Ad (.int 0))) Ae)) (Ac Av (Aa 3) (Ad (.int 1)))) (Ab (Aa 2) Ae)))))) 1 [4, 5, 0]))) (Al (Kg 6 (Aa 2) (Rn (GF (Aa 3) (Aw (Gz (Ac Av (Aa 6) (Aa 2)) (Fj (Ai CN (Ab (Aa 3) Ae))) Iu))))) (Dr (Bm (Ab (Ac Av (Aa 6) (Ad (.int 0))) (Ab (Ac Av (Aa 6) (Ad (.int 1))) (Ab (Aw (Bm (Ab (Be (Ab (Aa 2) (Ab (Aa 1) Ae))) Ae))) Ae))))))))
def K7 : List D → Option (List D) := Ci 5 7 aB
def bN : Am := (Bh (Ac DR (Ai Jz (Ab (Aa 1) Ae)) (Ac Ed (Ac Av (Aa 0) (Ad (.int 1))) (Ac DR (Aa 1) (Ac Av (Aa 0) (Ad (.int 2)))))))
def Mq : List D → Option D := Ba 2 2 bN
def jZ : Am := (Al (Ay 8 (vS (Ac Ed (Ac BV (Ai Mt (Ab (Aa 2) (Ab (Aa 7) Ae))) (Ac Av (Aw (Bm (Ab (Ac G9 (Ad (.int 10)) (Ad (.int 9))) (Ab (Ad (.int 3)) Ae)))) (Ac BV (Aa 7) (Ad (.int 2))))) (Ad (.int 1)))))
      (Kg 6 (Ac Av (Aa 5) (Aa 7)) (vS (Be (Ab (Ac Ed (Ac DR (Ac DR (Ad (.int 3)) (Aa 7)) (Ac Av (Aw (Bm (Ab (Ad (.int 1)) (Ab (Ac G9 (Ad (.int 10)) (Ad (.int 40))) Ae)))) (Ac BV (Aa 2) (Ad (.int 2))))) (Ac BV (Aa 2) (Ac G9 (Ad (.int 10)) (Ad (.int 57))))) (Ab (Aa 8) Ae))))))
def cZ : Am := (lD 5 (Ac BV (Ac CJ (Ai Mt (Ab (Aa 2) (Ab (Ai CN (Ab (Aa 5) Ae)) Ae))) (Ad (.int 7))) (Ai CN (Ab (Aa 5) Ae))))
def Z9 : Am := (Al (Ay 4 (vS (Ac DR (Ai Jz (Ab (Aa 1) Ae)) (Ac Av (Aa 0) (Ad (.int 1)))))) (Al (Ay 5 (vL (YW (Ab (Aa 4) Ae)))) (Al (J4 (Ax (Ac G3 (Ai CN (Ab (Aa 5) Ae)) (Ai Mr (Ab (Ad (.int 0)) (Ab (Aa 3) Ae))))) cZ 1000000) (Al (Ay 6 (vL (CT (BX Em (Ab (Aa 4) Ae)) (Ca 0) Cu (Be Ae) 1 []))) (Al (Y6 (BX Em (Ab (Ai CN (Ab (Aa 5) Ae)) Ae)) (J3 7) jZ) (LR 6))))))
def M5 : List D → Option (List D) := Ci 4 9 Z9
def AGZ : Am := (Al (Od 5 (vS (Aa 6)))
      (Ay 6 (vS (Ac Ed (Ac Ck (Aa 6) (Ad (.int 1))) (Ac DR (Ad (.int 2)) (Ac BV (Ac CJ (Aa 1) (Ad (.int 1000))) (Ad (.int 2))))))))
def AHs : Am := (Al (Ay 2 (vL (BX Il (Ab (Aa 0) Ae)))) (Al (Ay 3 (Gv (CT (BX Em (Ab (Ai CN (Ab (Aa 0) Ae)) Ae)) (Ca 0) (Ax (Ac Bu (Ac Av (Aa 1) (Aa 0)) (Be Ae))) (Aa 0) 1 [0]))) (Al (Bq (Ax (Ac Bj (Aa 3) (Aw (Bm Ae))))
      (LR 2) CQ)
    (Al (Ay 4 (vS (Ac Av (Aa 3) (Ac BV (Aa 1) (Ai CN (Ab (Aa 3) Ae))))))
    (Al (Ay 5 (vL (Bm (Ab (Aa 4) Ae))))
    (Al (Ay 6 (vS (Ac Ed (Ac Ck (Aa 4) (Ad (.int 1))) (Ac DR (Ad (.int 2)) (Ac BV (Ac CJ (Aa 1) (Ad (.int 1000))) (Ad (.int 2)))))))
    (Al (J4 (GX (Ax (Je Ih Ha (Ad (.int 0)) (Aa 6) (Ai CN (Ab (Aa 0) Ae)))) (Ax (Ac Bj (Ac Av (Aa 0) (Aa 6)) (Be Ae)))) AGZ 1000000)
    (Al (Kg 2 (Ac Av (Aa 5) (Ac BV (Ac CJ (Aa 1) (Ad (.int 2000))) (Ai CN (Ab (Aa 5) Ae)))) (vS (Ac Av (Aa 0) (Aa 4))))
    (LR 2)))))))))
def AEo : List D → Option (List D) := Ci 2 7 AHs
end LL
namespace LL
open PySem L2
abbrev Dk := List (List Thing)
def encL (ts : List Thing) : D := .list (ts.map encD)
def BK (k : Dk) : D := .list (k.map encL)
def Dw (k : Dk) : List (List D) := k.map fun ts => ts.map encD
theorem V3 (k : Dk) : BK k = .list ((Dw k).map PyData.list) := by
  unfold BK Dw encL
  rw [List.map_map]
  rfl
theorem AJ6 : Gw encL 2 := jD.list
theorem gD : Gw BK 3 := AJ6.list
theorem AIi {α β : Type} (f : α → β) (xs : List α) (i : Int) : DW (xs.map f) i = (DW xs i).map f := by
  unfold DW
  rw [List.length_map]
  cases GR xs.length i with
  | none => rfl
  | some j => simp
theorem ACe {α : Type} {xs : List α} {j : Nat} {x : α} (h : xs[j]? = some x) : DW xs (j : Int) = some x := by
  unfold DW
  rw [SM (List.getElem?_eq_some_iff.mp h).1]
  exact h
theorem ixK {k : Dk} {j : Nat} {A : List Thing} (h : k[j]? = some A) : Av (BK k) (.int (j : Int)) = some (encL A) := by
  show DW (k.map encL) _ = _
  rw [AIi, ACe h]
  rfl
theorem AGm (x y : Int) : Av (encD (some (x, y))) (.int 0) = some (.int x) := rfl
theorem AFe (x y : Int) : Av (encD (some (x, y))) (.int 1) = some (.int y) := rfl
structure Ej (k : Dk) (n a h : Nat) (A B : List Thing) : Prop where
  eq : k = [A, B, [some ((a : Int), (h : Int))]]
  lA : A.length = n
  lB : B.length = n
  a2 : a < 2
def Ni (k : Dk) (a : Nat) : List Thing := k.getD a []
theorem Ej.ar {k : Dk} {n a h : Nat} {A B : List Thing} (d : Ej k n a h A B) : k[a]? = some (Ni k a) ∧ (Ni k a).length = n := by
  obtain ⟨rfl, lA, lB, a2⟩ := d
  match a, a2 with
  | 0, _ => exact ⟨rfl, lA⟩
  | 1, _ => exact ⟨rfl, lB⟩
theorem Ej.sg {k : Dk} {n a h : Nat} {A B : List Thing} (d : Ej k n a h A B) : Av (BK k) (.int 2) = some (encL [some ((a : Int), (h : Int))]) ∧ Av (encL [some ((a : Int), (h : Int))]) (.int 0) = some (encD (some ((a : Int), (h : Int)))) := by
  obtain ⟨rfl, _⟩ := d
  exact ⟨rfl, rfl⟩
theorem Zx {k : Dk} {n a h : Nat} {A B : List Thing} (d : Ej k n a h A B) : Ik [BK k] = some (.int (a : Int)) := by
  obtain ⟨e1, e2⟩ := d.sg
  have e3 := AGm (a : Int) (h : Int)
  refine Cv (o := .rt (.int (a : Int))) rfl ?_ rfl
  unfold iC
  walk_at "pu"
theorem R3 {k : Dk} {n a h : Nat} {A B : List Thing} (d : Ej k n a h A B) : Fy [BK k] = some (.int (h : Int)) := by
  obtain ⟨e1, e2⟩ := d.sg
  have e3 := AFe (a : Int) (h : Int)
  refine Cv (o := .rt (.int (h : Int))) rfl ?_ rfl
  unfold bZ
  walk_at "pu"
theorem AHg {α : Type} (f : α → D) (xs : List α) (n : Nat) : cutD (xs.map f) none (some (n : Int)) = (xs.take n).map f := by
  unfold cutD
  have e0 : HT.De (xs.map f).length 0 none = 0 := rfl
  rw [e0, List.drop_zero, ← List.map_take]
  have e1 : HT.De (xs.map f).length (xs.map f).length (some (n : Int)) = min n xs.length := by
    simp only [HT.De, List.length_map]
    rw [if_neg (by omega)]
    omega
  rw [e1, Nat.sub_zero]
  congr 1
  by_cases h : n ≤ xs.length
  · rw [Nat.min_eq_left h]
  · rw [Nat.min_eq_right (by omega), List.take_of_length_le (Nat.le_refl _), List.take_of_length_le (by omega)]
def Bx (w : Nat) (k : Dk) (a h : Nat) : List Thing := (Ni k a).take (2 ^ h * w)
theorem Qt {k : Dk} {n a h w st : Nat} {t : Int} {A B : List Thing} (d : Ej k n a h A B) (h4 : h ≤ 4) : Eb [.tuple [.int t, .int (w : Int), .int (st : Int)], BK k] = some ((Bx w k a h).map encD) := by
  have e1 := Zx d
  have e2 := R3 d
  have e3 := places_eq (t := t) (w := w) (st := st) h4
  have e4 := ixK d.ar.1
  have e5 : Lw (encL (Ni k a)) = some ((Ni k a).map encD) := rfl
  have e6 := AHg encD (Ni k a) (2 ^ h * w)
  refine Hs rfl ?_
  unfold kZ Bx
  walk_at "pu"
theorem AHD (dss : List (List D)) : RB (Ca 0) Cu (BX Il (Ab (Aa 0) Ae)) [none] (dss.map PyData.list) = some dss := by
  induction dss with
  | nil => rfl
  | cons d r ih =>
    rw [List.map_cons]
    unfold RB
    rw [ih]
    rfl
theorem ADW {fi : BW} {ρ : Bf} {dss : List (List D)} (h : fi ρ = some (dss.map PyData.list)) (hl : dss.length < 16777216) : P0 fi (Ca 0) Cu (BX Il (Ab (Aa 0) Ae)) 1 [] ρ = some dss := by
  unfold P0
  rw [h]
  show (if fits (dss.map PyData.list).length = true then _ else _) = _
  rw [List.length_map, if_pos (lW hl)]
  exact AHD dss
theorem ACJ {f : BW} {ρ : Aq} {ds : List D} (i : Nat) (h : f (masked ρ) = some ds) : Ay i (Gv f) ρ = some (.nx (ρ.set i (.sh (.list ds)))) := by
  have e : Aw f (masked ρ) = some (.list ds) := by
    show (f (masked ρ)).map PyData.list = _
    rw [h]
    rfl
  show ((Aw f (masked ρ)).bind _).bind _ = _
  rw [e]
  rfl
abbrev Wr := Nat × Nat × Thing
def Fv (q : Wr) : D := .tuple [.int (q.1 : Nat), .int (q.2.1 : Nat), encD q.2.2]
def K5 (k : Dk) (q : Wr) : Dk := k.set q.1 ((k.getD q.1 []).set q.2.1 q.2.2)
def Om (k : Dk) (ws : List Wr) : Dk := ws.foldl K5 k
def Wf (k : Dk) (q : Wr) : Prop := q.1 < k.length ∧ q.2.1 < (k.getD q.1 []).length
def Alike (k k' : Dk) : Prop := k'.length = k.length ∧ ∀ a, (k'.getD a []).length = (k.getD a []).length
theorem Alike.refl (k : Dk) : Alike k k := ⟨rfl, fun _ => rfl⟩
theorem Alike.K5 {k k' : Dk} (h : Alike k k') (q : Wr) : Alike k (K5 k' q) := by
  unfold LL.K5
  refine ⟨by rw [List.length_set]; exact h.1, fun a => ?_⟩
  rw [← h.2 a]
  by_cases e : q.1 = a
  · subst e
    by_cases hl : q.1 < k'.length
    · simp [List.getD_eq_getElem?_getD, List.getElem?_set_self hl]
    · rw [List.set_eq_of_length_le (by omega)]
  · simp [List.getD_eq_getElem?_getD, List.getElem?_set_ne e]
theorem Alike.ok {k k' : Dk} (h : Alike k k') {q : Wr} (o : Wf k q) : Wf k' q := ⟨by rw [h.1]; exact o.1, by rw [h.2]; exact o.2⟩
theorem ACh {k : Dk} {a : Nat} (h : a < k.length) : (Dw k)[a]? = some ((k.getD a []).map encD) := by
  unfold Dw
  rw [List.getElem?_map, List.getElem?_eq_getElem h, List.getD_eq_getElem?_getD, List.getElem?_eq_getElem h]
  rfl
theorem AJP (k : Dk) (q : Wr) : (Dw k).set q.1 (((k.getD q.1 []).map encD).set q.2.1 (encD q.2.2)) = Dw (K5 k q) := by
  unfold Dw LL.K5
  rw [List.map_set, List.map_set]
theorem gP (k : Dk) (ws : List Wr) (hk : k.length < 16777216) (h : ∀ q ∈ ws, Wf k q) : HH [BK k, .list (ws.map Fv)] = some (Dw (Om k ws)) := by
  have loop := W2 (bs := Sy 3 4 5) (F := Zr) Fv (fun (us : Dk) ρ => Alike k us ∧ ∃ s3 s4 s5, ρ = [.sh (BK k), .sh (.list (ws.map Fv)), .on (Dw us), s3, s4, s5]) K5 ws ?_ k
    [.sh (BK k), .sh (.list (ws.map Fv)), .on (Dw k), .no, .no, .no] ⟨Alike.refl k, .no, .no, .no, rfl⟩
  · obtain ⟨ρ', hf, _, s3, s4, s5, rfl⟩ := loop
    have hm : HH = L2.runN 2 6 Uz := rfl
    rw [hm]
    unfold L2.runN
    rw [if_pos (show [BK k, PyData.list (ws.map Fv)].length = 2 from rfl)]
    have main : Uz (HF 6 [BK k, .list (ws.map Fv)]) = some (.rn (Dw (Om k ws))) := by
      unfold Uz
      have hc : P0 (DX (Aa 0)) (Ca 0) Cu (BX Il (Ab (Aa 0) Ae)) 1 [] (masked (HF 6 [BK k, .list (ws.map Fv)])) = some (Dw k) := ADW (by rw [V3]; rfl) (by unfold Dw; rw [List.length_map]; exact hk)
      refine Bp (ρ' := [.sh (BK k), .sh (.list (ws.map Fv)), .on (Dw k), .no, .no, .no]) ?_ ?_
      · show (vN _ _).bind _ = _
        unfold vN
        rw [hc]
        rfl
      · refine Bp ((Mm (items := ws.map Fv) (by walk_at "pu")).trans hf) ?_
        walk_at "pu"
        rfl
    rw [main]
    rfl
  · rintro us ρ q hq ⟨hA, s3, s4, s5, rfl⟩
    obtain ⟨o1, o2⟩ := hA.ok (h q hq)
    have l1 : (Dw us).length = us.length := by unfold Dw; rw [List.length_map]
    have i1 := SM (n := us.length) (j := q.1) o1
    have i2 := SM (n := (us.getD q.1 []).length) (j := q.2.1) o2
    have g1 := ACh o1
    have st := AJP us q
    refine ⟨_, [.sh (BK k), .sh (.list (ws.map Fv)), .on (Dw (K5 us q)), .sh (.int (q.1 : Nat)), .sh (.int (q.2.1 : Nat)), .sh (encD q.2.2)], rfl, ?_, hA.K5 q, _, _, _, rfl⟩
    clear hA hq h o1 o2
    unfold Zr
    walk_at "pu"
theorem AJ5 (a : Nat) (ws : List (Nat × Thing)) (hl : ws.length < 16777216) : Ln [.int (a : Int), .list (ws.map Ju)] = some ((ws.map fun q => ((a, q.1, q.2) : Wr)).map Fv) := by
  refine Hs rfl ?_
  unfold eU
  have hc : CT (DX (Aa 1)) (Ks 0 1) Cu (Be (Ab (Aa 2) (Ab (Aa 0) (Ab (Aa 1) Ae)))) 2 [0] (full (HF 2 [.int (a : Int), .list (ws.map Ju)])) = some ((ws.map fun q => ((a, q.1, q.2) : Wr)).map Fv) := by
    refine (Hv (items := ws.map Ju) (by walk_at "pu") (by rw [List.length_map]; exact hl)).trans ?_
    have key : ∀ us : List (Nat × Thing), Jq (Ks 0 1) Cu (Be (Ab (Aa 2) (Ab (Aa 0) (Ab (Aa 1) Ae)))) [none, none, some (.int (a : Int))] (us.map Ju) = some ((us.map fun q => ((a, q.1, q.2) : Wr)).map Fv) := by
      intro us
      induction us with
      | nil => rfl
      | cons q r ih =>
        rw [List.map_cons]
        unfold Jq
        rw [ih]
        rfl
    exact key ws
  show (CT _ _ _ _ _ _ _).bind _ = _
  rw [hc]
  rfl
theorem AI3 (X : List Pr) : Bu (.list (X.map Cp)) (.list []) = some (.bool (!decide (X = []))) := AGR X []
theorem wJ (c k : Int) (n : Nat) (X : List Pr) (hn : n ≤ 320) (hX : X.length ≤ 320) : ∃ A : List Thing, Ms [.int c, .int k, .int (n : Int), .list (X.map Cp)] = some (A.map encD) ∧ A.length = n := by
  have loop := iR (lo := 0) (bs := J3 5) (F := ZG)
    (fun i ρ => ∃ (A : List Thing) (s5 s6 s7 : Sl), ρ = [.sh (.int c), .sh (.int k), .sh (.int (n : Int)), .sh (.list (X.map Cp)), .ow (A.map encD), s5, s6, s7] ∧ A.length = i)
    n ?_ [.sh (.int c), .sh (.int k), .sh (.int (n : Int)), .sh (.list (X.map Cp)), .ow [], .no, .no, .no] ⟨[], _, _, _, rfl, rfl⟩
  · obtain ⟨ρ', ADG, A, s5, s6, s7, rfl, hl⟩ := loop
    refine ⟨A, Hs rfl ?_, hl⟩
    have hr : Em [.int (n : Int)] = some (Gm 0 n) := R7 _ ⟨by omega, by omega⟩
    unfold Zt
    refine Bp (ρ' := [.sh (.int c), .sh (.int k), .sh (.int (n : Int)), .sh (.list (X.map Cp)), .ow [], .no, .no, .no]) (by walk_at "pu") ?_
    exact Bp ((Mm (items := Gm 0 n) (by walk_at "pu")).trans ADG) (by walk_at "pu")
  · rintro i ρ hi ⟨A, s5, s6, s7, rfl, hl⟩
    obtain ⟨m, hm, m0⟩ := bL c (2 * (0 + (i : Int)) + k + 500)
    have hi2 : i < 16777216 := by omega
    have hnil := AI3 X
    have hi3 : -18446744073709551616 < (0 + (i : Int)) ∧ (0 + (i : Int)) < 18446744073709551616 := ⟨by omega, by omega⟩
    have last : ∀ key : Int, ∃ x : Thing, (Od 4 (vS (Ac Av (Aw (Bm (Ab (Be Ae) (Ab (Be (Ab (Aa 7) (Ab (Ac BV (Ac CJ (Aa 6) (Ad (.int 11))) (Ac G9 (Ad (.int 10)) (Ad (.int 6)))) Ae))) Ae)))) (Ai Kd (Ab (Ac G3 (Ac BV (Aa 6) (Ad (.int 3))) (Ad (.int 0))) Ae)))))
        [.sh (.int c), .sh (.int k), .sh (.int (n : Int)), .sh (.list (X.map Cp)), .ow (A.map encD), .sh (.int (0 + (i : Int))), .sh (.int m), .sh (.int key)] = some (.nx [.sh (.int c), .sh (.int k), .sh (.int (n : Int)), .sh (.list (X.map Cp)), .ow ((A ++ [x]).map encD), .sh (.int (0 + (i : Int))), .sh (.int m), .sh (.int key)]) := by
      intro key
      have lA : A.length < 16777216 := by omega
      by_cases h3 : 0 < m % 3
      · refine ⟨some (key, m / 11 % G7 6), ?_⟩
        rw [List.map_append]
        show _ = some (Out.nx [_, _, _, _, .ow (A.map encD ++ [.tuple [.int key, .int (m / 11 % G7 6)]]), _, _, _])
        clear hm hnil
        walk_at "pu"
      · refine ⟨none, ?_⟩
        rw [List.map_append]
        show _ = some (Out.nx [_, _, _, _, .ow (A.map encD ++ [.tuple []]), _, _, _])
        clear hm hnil
        walk_at "pu"
    by_cases hb : X ≠ [] ∧ m / 7 % 2 = 0
    · obtain ⟨b1, b2⟩ := hb
      have hXp : 0 < X.length := List.length_pos_iff.mpr b1
      have hmm := FW (m / 14) (b := (X.length : Int)) (by omega)
      obtain ⟨v, hv, ev⟩ := Mw (X.map Cp) (i := m / 14 % (X.length : Int)) hmm.1 (by rw [List.length_map]; exact hmm.2)
      obtain ⟨x, hx, rfl⟩ := List.mem_map.mp hv
      obtain ⟨kx, wx⟩ := x
      obtain ⟨y, hy⟩ := last (kx + m / 5 % 3 - 1)
      refine ⟨_, [.sh (.int c), .sh (.int k), .sh (.int (n : Int)), .sh (.list (X.map Cp)), .ow ((A ++ [y]).map encD), .sh (.int (0 + (i : Int))), .sh (.int m), .sh (.int (kx + m / 5 % 3 - 1))], rfl, ?_, A ++ [y], _, _, _, rfl, by rw [List.length_append, hl]; rfl⟩
      have e0 : Av (Cp (kx, wx)) (.int 0) = some (.int kx) := rfl
      have AKi : (0 : Int) < (X.length : Int) := by omega
      unfold ZG
      refine Bp (ρ' := [.sh (.int c), .sh (.int k), .sh (.int (n : Int)), .sh (.list (X.map Cp)), .ow (A.map encD), .sh (.int (0 + (i : Int))), .sh (.int m), s7]) (by clear hnil hv ev hy e0; walk_at "pu") ?_
      refine Bp (ρ' := [.sh (.int c), .sh (.int k), .sh (.int (n : Int)), .sh (.list (X.map Cp)), .ow (A.map encD), .sh (.int (0 + (i : Int))), .sh (.int m), .sh (.int (m / 3 % 1000 - 500))]) (by clear hm hnil hv ev hy e0; walk_at "pu") ?_
      refine Bp (ρ' := [.sh (.int c), .sh (.int k), .sh (.int (n : Int)), .sh (.list (X.map Cp)), .ow (A.map encD), .sh (.int (0 + (i : Int))), .sh (.int m), .sh (.int (kx + m / 5 % 3 - 1))]) ?_ hy
      clear hm hv hy hmm hx hXp m0
      walk_at "pu"
    · obtain ⟨y, hy⟩ := last (m / 3 % 1000 - 500)
      refine ⟨_, [.sh (.int c), .sh (.int k), .sh (.int (n : Int)), .sh (.list (X.map Cp)), .ow ((A ++ [y]).map encD), .sh (.int (0 + (i : Int))), .sh (.int m), .sh (.int (m / 3 % 1000 - 500))], rfl, ?_, A ++ [y], _, _, _, rfl, by rw [List.length_append, hl]; rfl⟩
      unfold ZG
      refine Bp (ρ' := [.sh (.int c), .sh (.int k), .sh (.int (n : Int)), .sh (.list (X.map Cp)), .ow (A.map encD), .sh (.int (0 + (i : Int))), .sh (.int m), s7]) (by clear hnil hy hb; walk_at "pu") ?_
      refine Bp (ρ' := [.sh (.int c), .sh (.int k), .sh (.int (n : Int)), .sh (.list (X.map Cp)), .ow (A.map encD), .sh (.int (0 + (i : Int))), .sh (.int m), .sh (.int (m / 3 % 1000 - 500))]) (by clear hm hnil hy hb; walk_at "pu") ?_
      refine Bp ?_ hy
      clear hm hy
      by_cases b1 : X = []
      · clear hb
        rw [decide_eq_true b1, Bool.not_true] at hnil
        clear b1
        walk_at "pu"
      · have b2 : ¬ m / 7 % 2 = 0 := fun z => hb ⟨b1, z⟩
        clear hb
        walk_at "pu"
theorem AGX {α : Type} (f : α → D) (xs : List α) (n : Nat) : cutD (xs.map f) (some (n : Int)) none = (xs.drop n).map f := by
  unfold cutD
  have e0 : HT.De (xs.map f).length 0 (some (n : Int)) = min n xs.length := by
    simp only [HT.De, List.length_map]
    rw [if_neg (by omega)]
    omega
  have e1 : HT.De (xs.map f).length (xs.map f).length none = xs.length := by simp [HT.De]
  rw [e0, e1, ← List.map_drop, ← List.map_take]
  congr 1
  by_cases h : n ≤ xs.length
  · rw [Nat.min_eq_left h, List.take_of_length_le (by simp)]
  · rw [Nat.min_eq_right (by omega), List.drop_of_length_le (Nat.le_refl _), List.drop_of_length_le (by omega)]
    simp
theorem AFG {t w st : Nat} (c : Int) (h a : Nat) (ts : List Thing) (bd : Bd (t : Int) (w : Int) (st : Int)) (ha : a < 2) (hl : ts.length ≤ 2 ^ t * w) :
    ∃ A B : List Thing, K7 [.tuple [.int (t : Int), .int (w : Int), .int (st : Int)], .int (h : Int), .int (a : Int), encL ts, .int c] = some ([A, B, [some ((a : Int), (h : Int))]].map encL) ∧ A.length = 2 ^ t * w ∧ B.length = 2 ^ t * w ∧ (Ni [A, B, [some ((a : Int), (h : Int))]] a).take ts.length = ts := by
  have t4 : t ≤ 4 := by have := bd.t4; omega
  have w20 : w ≤ 20 := by have := bd.hi; omega
  have hp : 2 ^ t ≤ 16 := by
    have : 2 ^ t ≤ 2 ^ 4 := Nat.pow_le_pow_right (by decide) t4
    omega
  have hN : 2 ^ t * w ≤ 320 := by
    have := Nat.mul_le_mul hp w20
    omega
  have hth : (things ts).length ≤ 320 := by
    have : (things ts).length ≤ ts.length := List.length_filterMap_le _ _
    omega
  obtain ⟨A0, hA, lA⟩ := wJ c 0 (2 ^ t * w) (things ts) hN hth
  obtain ⟨B0, hB, lB⟩ := wJ c 1 (2 ^ t * w) (things ts) hN hth
  have Kh := Zy (h := (t : Int)) (by omega) (by omega)
  rw [Zi] at Kh
  have hmul : ((2 ^ t : Nat) : Int) * (w : Int) = ((2 ^ t * w : Nat) : Int) := by push_cast; rfl
  have hsm : -18446744073709551616 < ((2 ^ t : Nat) : Int) ∧ ((2 ^ t : Nat) : Int) < 18446744073709551616 := by
    generalize 2 ^ t = P at hp
    omega
  generalize hz : ((2 ^ t : Nat) : Int) = z at Kh hmul hsm
  generalize hz2 : 2 ^ t * w = N at *
  have Rb := AI2 ts (by omega) (fi := DX (Aa 3)) (ρ := masked (HF 7 [.tuple [.int (t : Int), .int (w : Int), .int (st : Int)], .int (h : Int), .int (a : Int), encL ts, .int c])) rfl
  rw [dG] at Rb
  have Kc : CT (BX Em (Ab (Ad (.int 2)) Ae)) (Ca 0) Cu (Aw (BX Ms (Ab (Aa 1) (Ab (Aa 0) (Ab (Ac DR (Ai Jz (Ab (Ac Av (Aa 3) (Ad (.int 0))) Ae)) (Ac Av (Aa 3) (Ad (.int 1)))) (Ab (Aa 2) Ae)))))) 1 [4, 5, 0]
      (masked [.sh (.tuple [.int (t : Int), .int (w : Int), .int (st : Int)]), .sh (.int (h : Int)), .sh (.int (a : Int)), .sh (encL ts), .sh (.int c), .sh (.list ((things ts).map Cp)), .no]) = some [encL A0, encL B0] := by
    refine (Hv (items := [.int 0, .int 1]) (by
      have : Em [.int 2] = some [.int 0, .int 1] := by
        rw [show (PyData.int 2 : D) = .int ((2 : Nat) : Int) from rfl, R7 _ ⟨by decide, by decide⟩]
        rfl
      walk_at "pu") (by decide)).trans ?_
    have hA' : Ms [.int c, .int 0, .int (N : Int), .list ((things ts).map Cp)] = some (A0.map encD) := hA
    have hB' : Ms [.int c, .int 1, .int (N : Int), .list ((things ts).map Cp)] = some (B0.map encD) := hB
    clear Rb hA hB hz hz2 bd
    simp only [Jq, L2.compEnv, Ca, List.map_cons, List.map_nil, masked]
    walk_at "pu"
    rfl
  have lts := AGX encD
  have hres : ∀ (A B : List Thing), some ([A, B, [some ((a : Int), (h : Int))]].map encL) = some [encL A, encL B, .list [.tuple [.int (a : Int), .int (h : Int)]]] := fun A B => rfl
  have hfl : ∀ A : List Thing, GJ (A.map encD) = true := Tq
  have run : ∀ (A B C : List Thing), (Kg 6 (Aa 2) (Rn (GF (Aa 3) (Aw (Gz (Ac Av (Aa 6) (Aa 2)) (Fj (Ai CN (Ab (Aa 3) Ae))) Iu))))) [.sh (.tuple [.int (t : Int), .int (w : Int), .int (st : Int)]), .sh (.int (h : Int)), .sh (.int (a : Int)), .sh (encL ts), .sh (.int c), .sh (.list ((things ts).map Cp)), .ow [encL A0, encL B0]]
      = some (.nx [.sh (.tuple [.int (t : Int), .int (w : Int), .int (st : Int)]), .sh (.int (h : Int)), .sh (.int (a : Int)), .sh (encL ts), .sh (.int c), .sh (.list ((things ts).map Cp)), .ow [encL A, encL B]]) →
      K7 [.tuple [.int (t : Int), .int (w : Int), .int (st : Int)], .int (h : Int), .int (a : Int), encL ts, .int c] = some ([A, B, [some ((a : Int), (h : Int))]].map encL) := by
    intro A B C hs
    refine Hs rfl ?_
    unfold aB
    refine Bp (ρ' := [.sh (.tuple [.int (t : Int), .int (w : Int), .int (st : Int)]), .sh (.int (h : Int)), .sh (.int (a : Int)), .sh (encL ts), .sh (.int c), .sh (.list ((things ts).map Cp)), .no]) ?_ ?_
    · show (vS (Aw _) _).bind _ = _
      unfold vS Aw
      rw [Rb]
      rfl
    · refine Bp (ρ' := [.sh (.tuple [.int (t : Int), .int (w : Int), .int (st : Int)]), .sh (.int (h : Int)), .sh (.int (a : Int)), .sh (encL ts), .sh (.int c), .sh (.list ((things ts).map Cp)), .ow [encL A0, encL B0]]) ?_ ?_
      · show (vL _ _).bind _ = _
        unfold vL
        rw [Kc]
        rfl
      · refine Bp hs ?_
        clear hs Kc Rb hA hB
        walk_at "pu"
        rfl
  have eL : ∀ A : List Thing, Lw (encL A) = some (A.map encD) := fun A => rfl
  have eln : CN [encL ts] = some (.int (ts.length : Int)) := by show some (PyData.int ((ts.map encD).length : Int)) = _; rw [List.length_map]
  have Pb : ∀ A : List Thing, A.length = N → ts.length + (A.drop ts.length).length < 16777216 := fun A hA => by rw [List.length_drop]; omega
  match a, ha with
  | 0, _ =>
    refine ⟨ts ++ A0.drop ts.length, B0, run _ _ [] ?_, by rw [List.length_append, List.length_drop]; omega, lB, ?_⟩
    · have e1 := lts A0 ts.length
      have e2 := Pb A0 lA
      have e3 := hfl (ts ++ A0.drop ts.length)
      rw [List.map_append] at e3
      have e4 : Av (.list [encL A0, encL B0]) (.int ((0 : Nat) : Int)) = some (encL A0) := rfl
      have e5 : GR 2 ((0 : Nat) : Int) = some 0 := rfl
      have e6 : encL (ts ++ A0.drop ts.length) = .list (ts.map encD ++ (A0.drop ts.length).map encD) := by unfold encL; rw [List.map_append]
      rw [e6]
      clear run hres Kc Rb hA hB hfl Pb lts
      walk_at "pu"
    · exact List.take_left' rfl
  | 1, _ =>
    refine ⟨A0, ts ++ B0.drop ts.length, run _ _ [] ?_, lA, by rw [List.length_append, List.length_drop]; omega, ?_⟩
    · have e1 := lts B0 ts.length
      have e2 := Pb B0 lB
      have e3 := hfl (ts ++ B0.drop ts.length)
      rw [List.map_append] at e3
      have e4 : Av (.list [encL A0, encL B0]) (.int ((1 : Nat) : Int)) = some (encL B0) := rfl
      have e5 : GR 2 ((1 : Nat) : Int) = some 1 := rfl
      have e6 : encL (ts ++ B0.drop ts.length) = .list (ts.map encD ++ (B0.drop ts.length).map encD) := by unfold encL; rw [List.map_append]
      rw [e6]
      clear run hres Kc Rb hA hB hfl Pb lts
      walk_at "pu"
    · exact List.take_left' rfl
end LL
namespace LL
open PySem L2
def Iz (P : PP) (s : List Thing) : List Thing := P.foldl (fun s p => s.set p.1 (some p.2)) s
theorem dR : ∀ (Y' X Z : List Thing), Iz (Et X.length Y') (X ++ List.replicate Y'.length none ++ Z) = X ++ Y' ++ Z
  | [], X, Z => rfl
  | none :: r, X, Z => by
    have ih := dR r (X ++ [none]) Z
    rw [List.length_append] at ih
    show Iz (Et (X.length + 1) r) (X ++ List.replicate (r.length + 1) none ++ Z) = _
    have e1 : X ++ List.replicate (r.length + 1) none ++ Z = X ++ [none] ++ List.replicate r.length none ++ Z := by rw [List.replicate_succ]; simp
    have e2 : X ++ none :: r ++ Z = X ++ [none] ++ r ++ Z := by simp
    rw [e1, e2]
    exact ih
  | some x :: r, X, Z => by
    have ih := dR r (X ++ [some x]) Z
    rw [List.length_append] at ih
    show Iz (Et (X.length + 1) r) ((X ++ List.replicate (r.length + 1) none ++ Z).set X.length (some x)) = _
    have e1 : (X ++ List.replicate (r.length + 1) none ++ Z).set X.length (some x) = X ++ [some x] ++ List.replicate r.length none ++ Z := by
      rw [List.replicate_succ, List.append_assoc, List.set_append_right _ _ (Nat.le_refl _), Nat.sub_self]
      simp
    have e2 : X ++ some x :: r ++ Z = X ++ [some x] ++ r ++ Z := by simp
    rw [e1, e2]
    exact ih
theorem AFb (P : PP) : ∀ s : List Thing, (Iz P s).length = s.length := by
  unfold Iz
  induction P with
  | nil => exact fun s => rfl
  | cons p P ih => intro s; rw [List.foldl_cons, ih]; simp
theorem YX : ∀ (n k : Nat) (P : PP), P.Pairwise (fun a b => a.1 < b.1) → (∀ p ∈ P, k ≤ p.1 ∧ p.1 < k + n) → ∃ Y : List Thing, Y.length = n ∧ Et k Y = P
  | 0, k, [], _, _ => ⟨[], rfl, rfl⟩
  | 0, k, p :: P, _, h => by
    have := h p (.head _)
    omega
  | n + 1, k, [], _, _ => by
    obtain ⟨Y, h1, h2⟩ := YX n (k + 1) [] .nil (fun p hp => by cases hp)
    exact ⟨none :: Y, by simp [h1], h2⟩
  | n + 1, k, p :: P, hs, h => by
    obtain ⟨hs1, hs2⟩ := List.pairwise_cons.mp hs
    by_cases hk : p.1 = k
    · obtain ⟨Y, h1, h2⟩ := YX n (k + 1) P hs2 (fun q hq => by
        have a := hs1 q hq
        have b := h q (.tail _ hq)
        omega)
      refine ⟨some p.2 :: Y, by simp [h1], ?_⟩
      show (k, p.2) :: Et (k + 1) Y = p :: P
      rw [h2, ← hk]
    · obtain ⟨Y, h1, h2⟩ := YX n (k + 1) (p :: P) hs (fun q hq => by
        have c := h p (.head _)
        have b := h q hq
        rcases List.mem_cons.mp hq with rfl | hq
        · omega
        · have a := hs1 q hq
          omega)
      exact ⟨none :: Y, by simp [h1], h2⟩
theorem AIn {fi : BW} {W : Nat} (hW : W < 16777216) {ρ : Bf} (h : fi ρ = some ((List.range W).map G5)) : CT fi (Ca 0) Cu (Be Ae) 1 [] ρ = some ((List.replicate W (none : Thing)).map encD) := by
  rw [Hv h (by simpa using hW), Oz G5 (fun _ => encD none)]
  · congr 1
    rw [List.map_replicate, List.map_const', List.length_range]
  · intro i _
    exact ⟨_, rfl, rfl⟩
theorem ADb {fi : BW} {bs : D → Aq → Option Aq} {F : Am} {ρ : Aq} {items : List D} (h : fi (full ρ) = some items) : Y6 fi bs F ρ = Dl bs F items ρ := by
  unfold Y6
  rw [h]
  rfl
theorem AAn {t : Int} {w st hh : Nat} (c more : Int) (bd : Bd t (w : Int) (st : Int)) (h4 : hh ≤ 4) : ∃ ts : List Thing, M5 [.tuple [.int t, .int (w : Int), .int (st : Int)], .int (hh : Int), .int c, .int more] = some (ts.map encD) ∧ Fi ts ∧ ts.length = 2 ^ hh * w ∧ ((keysOf ts).length : Int) = min ((2 ^ hh * w : Nat) : Int) (max 0 more) := by
  have w1 := bd.w1
  have w20 := bd.hi
  have hz := Oi (k := hh) (w := w) h4 (by omega) (by omega)
  have Kh := Zy (h := (hh : Int)) (by omega) (by omega)
  have hTw : tw (hh : Int) * (w : Int) = ((2 ^ hh * w : Nat) : Int) := by rw [Zi, Int.natCast_mul]
  have hTs : -18446744073709551616 < tw (hh : Int) ∧ tw (hh : Int) < 18446744073709551616 := by
    rcases jP (h := (hh : Int)) (by omega) (by omega) with e | e | e | e | e <;> omega
  have hhs : -18446744073709551616 < (hh : Int) ∧ (hh : Int) < 18446744073709551616 := by omega
  generalize hT2 : tw (hh : Int) = T2 at *
  generalize hSz : 2 ^ hh * w = Z at *
  obtain ⟨many, Gj⟩ : ∃ many : Nat, min (Z : Int) (max 0 more) = (many : Int) := ⟨(min (Z : Int) (max 0 more)).toNat, by omega⟩
  have hmz : many ≤ Z := by omega
  have hg : Em [.int (Z : Int)] = some ((List.range Z).map G5) := uR Z (by omega)
  have wh := vA (c := Ax (Ac G3 (Ai CN (Ab (Aa 5) Ae)) (Ai Mr (Ab (Ad (.int 0)) (Ab (Aa 3) Ae))))) (F := cZ) Z
    (fun k ρ => ∃ A : List Nat, ρ = [.sh (.tuple [.int t, .int (w : Int), .int (st : Int)]), .sh (.int (hh : Int)), .sh (.int c), .sh (.int more), .sh (.int (Z : Int)), .ow (A.map G5), .no, .no, .no] ∧ A.Pairwise (· < ·) ∧ (∀ a ∈ A, a < Z) ∧ A.length + k = Z ∧ many ≤ A.length) ?_ 1000000 0
    [.sh (.tuple [.int t, .int (w : Int), .int (st : Int)]), .sh (.int (hh : Int)), .sh (.int c), .sh (.int more), .sh (.int (Z : Int)), .ow ((List.range Z).map G5), .no, .no, .no] ⟨List.range Z, rfl, List.pairwise_lt_range, fun a ha => List.mem_range.mp ha, by simp, by simpa using hmz⟩ (Nat.zero_le _) (by omega)
  · obtain ⟨k, ρ', hw, ⟨A, rfl, h1, h2, h3, h4'⟩, hend, _⟩ := wh
    have hAl : A.length = many := by
      have he : (Ax (Ac G3 (Ai CN (Ab (Aa 5) Ae)) (Ai Mr (Ab (Ad (.int 0)) (Ab (Aa 3) Ae))))) (full [.sh (.tuple [.int t, .int (w : Int), .int (st : Int)]), .sh (.int (hh : Int)), .sh (.int c), .sh (.int more), .sh (.int (Z : Int)), .ow (A.map G5), .no, .no, .no]) = some (decide (max 0 more < (A.length : Int))) := by
        clear hend hw Kh hTw hT2 hSz Gj hg h2 hz
        walk_at "pu"
      rw [he] at hend
      have := of_decide_eq_false (Option.some.inj hend)
      omega
    have mc := FW c (b := 2) (by decide)
    obtain ⟨v, hv, ev⟩ := Mw ([.int 1, .int (G7 40)] : List D) (i := c % 2) mc.1 mc.2
    obtain ⟨mu, rfl, mu0⟩ : ∃ mu : Int, v = .int mu ∧ 0 < mu := by
      simp only [List.mem_cons, List.mem_nil_iff, or_false] at hv
      rcases hv with rfl | rfl
      · exact ⟨1, rfl, by decide⟩
      · exact ⟨_, rfl, RL _⟩
    have lp := iR (bs := J3 7) (F := jZ) (lo := 0)
      (fun i ρ => ∃ (P : PP) (s9 s10 : Sl), ρ = [.sh (.tuple [.int t, .int (w : Int), .int (st : Int)]), .sh (.int (hh : Int)), .sh (.int c), .sh (.int more), .sh (.int (Z : Int)), .ow (A.map G5), .ow ((Iz P (List.replicate Z none)).map encD), s9, s10] ∧ P.map (·.1) = A.take i ∧ P.map (fun p => p.2.1) = (List.range i).map (fun j : Nat => 3 * (j : Int) * mu - c % G7 57)) many ?_
      [.sh (.tuple [.int t, .int (w : Int), .int (st : Int)]), .sh (.int (hh : Int)), .sh (.int c), .sh (.int more), .sh (.int (Z : Int)), .ow (A.map G5), .ow ((List.replicate Z (none : Thing)).map encD), .no, .no] ⟨[], _, _, rfl, rfl, rfl⟩
    · obtain ⟨ρ2, hf, P, s9, s10, rfl, hP1, hP2⟩ := lp
      rw [← hAl, List.take_length] at hP1
      obtain ⟨Y, hY1, hY2⟩ := YX Z 0 P (by
        have : (P.map (·.1)).Pairwise (· < ·) := by rw [hP1]; exact h1
        exact List.pairwise_map.mp this) (fun p hp => by
        have := h2 p.1 (by rw [← hP1]; exact List.mem_map_of_mem hp)
        omega)
      have hlay : Iz P (List.replicate Z none) = Y := by
        have := dR Y [] []
        rw [List.nil_append, List.nil_append, List.append_nil, List.append_nil, hY1] at this
        have e : Et ([] : List Thing).length Y = P := hY2
        rw [e] at this
        exact this
      have hkeys : keysOf Y = (List.range many).map (fun j : Nat => 3 * (j : Int) * mu - c % G7 57) := by
        rw [XN, ← dF Y 0, hY2, List.map_map]
        exact hP2
      refine ⟨Y, ?_, ?_, hY1, ?_⟩
      · rw [hlay] at hf
        have hrm := R7 (many : Int) ⟨by omega, by omega⟩
        rw [Int.toNat_natCast] at hrm
        have c2 := AIn (fi := BX Em (Ab (Aa 4) Ae)) (W := Z) (by omega) (ρ := [some (.tuple [.int t, .int (w : Int), .int (st : Int)]), some (.int (hh : Int)), some (.int c), some (.int more), some (.int (Z : Int)), none, none, none, none]) (by
          clear hf hw hend Kh hTw hT2 hSz Gj h2 hz hkeys hlay hP1 hP2 hY2
          walk_at "pu")
        have hfit : (List.range Z).length < 16777216 := by simp; omega
        have hp : YW (Ab (Aa 4) Ae) [some (.tuple [.int t, .int (w : Int), .int (st : Int)]), some (.int (hh : Int)), some (.int c), some (.int more), some (.int (Z : Int)), none, none, none, none] = some ((List.range Z).map G5) := by
          unfold YW
          clear hf hw hend Kh hTw hT2 hSz Gj h2 hz hkeys hlay hP1 hP2 hY2 c2
          walk_at "pu"
        refine Hs rfl ?_
        clear hend hkeys hlay hP1 hP2 hY2 h2 hz hSz hT2 ev hv
        generalize (List.range Z).map G5 = RZ at *
        generalize (List.replicate Z (none : Thing)).map encD = RN at *
        generalize Y.map encD = YD at *
        have AKg : (A.map G5).length = many := by rw [List.length_map]; exact hAl
        generalize A.map G5 = AD at *
        unfold Z9
        generalize CT (BX Em (Ab (Aa 4) Ae)) (Ca 0) Cu (Be Ae) 1 [] = CC at *
        refine Bp (ρ' := [.sh (.tuple [.int t, .int (w : Int), .int (st : Int)]), .sh (.int (hh : Int)), .sh (.int c), .sh (.int more), .sh (.int (Z : Int)), .no, .no, .no, .no]) (by clear hf hw c2 hp Gj; walk_at "pu") ?_
        refine Bp (ρ' := [.sh (.tuple [.int t, .int (w : Int), .int (st : Int)]), .sh (.int (hh : Int)), .sh (.int c), .sh (.int more), .sh (.int (Z : Int)), .ow RZ, .no, .no, .no]) (by clear hf hw c2 Gj hTw; walk_at "pu") ?_
        refine Bp hw ?_
        refine Bp (ρ' := [.sh (.tuple [.int t, .int (w : Int), .int (st : Int)]), .sh (.int (hh : Int)), .sh (.int c), .sh (.int more), .sh (.int (Z : Int)), .ow AD, .ow RN, .no, .no]) (by clear hf hw hp Gj hTw; walk_at "pu") ?_
        refine Bp ((ADb (items := Gm 0 many) (by clear hf hw c2 hp Gj hTw; walk_at "pu")).trans hf) (by clear hf hw c2 hp Gj hTw; walk_at "pu")
      · unfold Fi
        rw [hkeys, List.pairwise_map]
        refine List.pairwise_lt_range.imp fun {a b} hab => ?_
        have : 3 * (a : Int) * mu < 3 * (b : Int) * mu := Int.mul_lt_mul_of_pos_right (by omega) mu0
        omega
      · rw [hkeys, List.length_map, List.length_range, Gj]
    · rintro i ρ hi ⟨P, s9, s10, rfl, hP1, hP2⟩
      rw [Int.zero_add]
      obtain ⟨z, hz', z0⟩ := bL c (i : Int)
      have mi := FW (i : Int) (b := 2) (by decide)
      obtain ⟨u, hu, eu⟩ := Mw ([.int (G7 9), .int 3] : List D) (i := (i : Int) % 2) mi.1 mi.2
      obtain ⟨dv, rfl, dv0⟩ : ∃ dv : Int, u = .int dv ∧ 0 < dv ∧ dv < 1073741824 := by
        simp only [List.mem_cons, List.mem_nil_iff, or_false] at hu
        rcases hu with rfl | rfl
        · exact ⟨_, rfl, RL _, by unfold G7; decide⟩
        · exact ⟨3, rfl, by decide, by decide⟩
      have hAi : i < A.length := by omega
      have ABG : DW (A.map G5) (i : Int) = some (.int ((A[i] : Nat) : Int)) := by
        rw [Q0]
        simp [hAi, G5]
      have hlt : A[i] < (Iz P (List.replicate Z none)).length := by
        rw [AFb, List.length_replicate]
        exact h2 _ (List.getElem_mem hAi)
      have hix := SM hlt
      refine ⟨_, [.sh (.tuple [.int t, .int (w : Int), .int (st : Int)]), .sh (.int (hh : Int)), .sh (.int c), .sh (.int more), .sh (.int (Z : Int)), .ow (A.map G5), .ow ((Iz (P ++ [(A[i], (3 * (i : Int) * mu - c % G7 57, z % dv - 1))]) (List.replicate Z none)).map encD), .sh (.int (i : Int)), .sh (.int (z % dv - 1))], rfl, ?_, _, _, _, rfl, ?_, ?_⟩
      · have hsn : (Iz (P ++ [(A[i], (3 * (i : Int) * mu - c % G7 57, z % dv - 1))]) (List.replicate Z none)).map encD = ((Iz P (List.replicate Z none)).map encD).set A[i] (.tuple [.int (3 * (i : Int) * mu - c % G7 57), .int (z % dv - 1)]) := by
          unfold Iz
          rw [List.foldl_append]
          show (List.set (List.foldl (fun (s : List Thing) (p : Nat × Pr) => s.set p.1 (some p.2)) (List.replicate Z none) P) A[i] (some (3 * (i : Int) * mu - c % G7 57, z % dv - 1))).map encD = _
          rw [List.map_set]
          rfl
        rw [hsn]
        have b1 : -18446744073709551616 < (i : Int) ∧ (i : Int) < 18446744073709551616 := by omega
        have b3 : -18446744073709551616 < 3 * (i : Int) ∧ 3 * (i : Int) < 18446744073709551616 := by omega
        generalize (Iz P (List.replicate Z none)) = V at *
        generalize A[i] = q at *
        clear hsn hP1 hP2 hw hend h1 h2 h3 h4' hAl Kh hTw hT2 hSz Gj hg hv hu hz hlt hAi hi hmz hTs hhs mi mc
        unfold jZ
        refine Bp (ρ' := [.sh (.tuple [.int t, .int (w : Int), .int (st : Int)]), .sh (.int (hh : Int)), .sh (.int c), .sh (.int more), .sh (.int (Z : Int)), .ow (A.map G5), .ow (V.map encD), .sh (.int (i : Int)), .sh (.int (z % dv - 1))]) (by clear ev ABG hix; walk_at "pu") ?_
        clear eu hz'
        walk_at "pu"
      · rw [List.map_append, hP1, List.take_succ, List.getElem?_eq_getElem hAi]
        rfl
      · rw [List.map_append, hP2, List.range_succ, List.map_append]
        rfl
  · rintro k ρ ⟨A, rfl, h1, h2, h3, h4'⟩
    refine ⟨decide (max 0 more < (A.length : Int)), by clear h1 h2 h3 h4' Kh hTw hT2 hSz Gj hg hz; walk_at "pu", fun hb => ?_⟩
    have hb' := of_decide_eq_true hb
    obtain ⟨z, hz', _⟩ := bL c (A.length : Int)
    have mp := FW (z / 7) (b := (A.length : Int)) (by omega)
    have ml : 0 < (A.length : Int) := by omega
    have hfit : A.length < 16777216 := by omega
    refine ⟨by omega, [.sh (.tuple [.int t, .int (w : Int), .int (st : Int)]), .sh (.int (hh : Int)), .sh (.int c), .sh (.int more), .sh (.int (Z : Int)), .ow ((A.map G5).eraseIdx (z / 7 % (A.length : Int)).toNat), .no, .no, .no], ?_, A.eraseIdx (z / 7 % (A.length : Int)).toNat, ?_, ?_, ?_, ?_, ?_⟩
    · have hm0 := mp.1
      have hm1 := mp.2
      clear h1 h2 h3 h4' hb hb' hmz mp hg Kh hTw hT2 hSz Gj hz hTs hhs
      unfold cZ lD
      walk_at "pu"
    · rw [mZ]
    · exact h1.sublist (List.eraseIdx_sublist _ _)
    · exact fun a ha => h2 a ((List.eraseIdx_sublist _ _).subset ha)
    · rw [List.length_eraseIdx_of_lt (by omega)]; omega
    · rw [List.length_eraseIdx_of_lt (by omega)]; omega
end LL
namespace LL
open PySem L2
structure sX (ts S : List Thing) : Prop where
  len : S.length = ts.length
  way : S = ts ∨ ∃ (p q : Nat) (x : Int × Int), ts[p]? = some (some x) ∧ ts[q]? = some none ∧ (∀ i, (p < i ∧ i < q ∨ q < i ∧ i < p) → ts[i]? = some none) ∧ S = ts.set q (some x)
end LL
namespace LL
open PySem L2
def Q8 (last : Thing) : List Thing → Thing
  | [] => last
  | none :: r => Q8 last r
  | some x :: r => Q8 (some x) r
theorem ZK : ∀ (A : List Thing) (last : Thing) (i : Nat) (R : List Thing), (keysOf (last :: A)).Pairwise (· < ·) → Ec last i (A ++ R) = Ec (Q8 last A) (i + A.length) R
  | [], last, i, R, _ => rfl
  | none :: r, last, i, R, h => by
    have h' : (keysOf (last :: r)).Pairwise (· < ·) := by
      cases last with
      | none => exact h
      | some y => exact h
    have := ZK r last (i + 1) R h'
    rw [List.cons_append, List.length_cons]
    show Ec last (i + 1) (r ++ R) = Ec (Q8 last r) _ R
    rw [this]
    congr 1
    omega
  | some x :: r, last, i, R, h => by
    have hx : ¬ some x = last := by
      intro e
      subst e
      have h2 : (x.1 :: x.1 :: keysOf r).Pairwise (· < ·) := h
      have := (List.pairwise_cons.mp h2).1 x.1 CW
      omega
    have h' : (keysOf (some x :: r)).Pairwise (· < ·) := by
      cases last with
      | none => exact h
      | some y => exact (List.pairwise_cons.mp (show (y.1 :: keysOf (some x :: r)).Pairwise (· < ·) from h)).2
    have := ZK r (some x) (i + 1) R h'
    rw [List.cons_append, List.length_cons]
    show (if some x = last then some i else Ec (some x) (i + 1) (r ++ R)) = Ec (Q8 (some x) r) _ R
    rw [if_neg hx, this]
    congr 1
    omega
theorem rZ (last : Thing) (R : List Thing) : ∀ (k i : Nat), Ec last i (List.replicate k none ++ R) = Ec last (i + k) R
  | 0, i => rfl
  | k + 1, i => by
    rw [List.replicate_succ, List.cons_append]
    show Ec last (i + 1) _ = _
    rw [rZ last R k (i + 1)]
    congr 1
    omega
theorem AKP {ts : List Thing} (h : Fi ts) : Ec none 0 ts = none := by
  have := ZK ts none 0 [] h
  rw [List.append_nil] at this
  rw [this]
  rfl
theorem gF {ts : List Thing} (h : Fi ts) : Cr ts = ts := by
  unfold Cr
  rw [AKP h]
theorem AAi (A : List Thing) (x : Int × Int) : ∀ last, Q8 last (A ++ [some x]) = some x := by
  induction A with
  | nil => intro last; rfl
  | cons t r ih =>
    intro last
    cases t with
    | none => exact ih last
    | some y => exact ih (some y)
theorem Z5 {S : List Thing} {p q : Nat} {a b : Thing} (hp : S[p]? = some a) (hq : S[q]? = some b) (hpq : p < q) (mid : ∀ i, p < i → i < q → S[i]? = some none) :
    S = S.take p ++ a :: (List.replicate (q - p - 1) none ++ b :: S.drop (q + 1)) := by
  have lq : q < S.length := (List.getElem?_eq_some_iff.mp hq).1
  have lp : p < S.length := by omega
  have e1 : S.drop p = a :: S.drop (p + 1) := by
    rw [List.drop_eq_getElem_cons lp]
    congr 1
    exact Option.some.inj ((List.getElem?_eq_getElem lp).symm.trans hp)
  have e2 : S.drop q = b :: S.drop (q + 1) := by
    rw [List.drop_eq_getElem_cons lq]
    congr 1
    exact Option.some.inj ((List.getElem?_eq_getElem lq).symm.trans hq)
  have e3 : (S.drop (p + 1)).take (q - p - 1) = List.replicate (q - p - 1) none := by
    apply List.ext_getElem?
    intro i
    rw [List.getElem?_take, List.getElem?_replicate]
    by_cases hi : i < q - p - 1
    · rw [if_pos hi, if_pos hi, List.getElem?_drop]
      exact mid (p + 1 + i) (by omega) (by omega)
    · rw [if_neg hi, if_neg hi]
  have e4 : S.drop (p + 1) = List.replicate (q - p - 1) none ++ S.drop q := by
    rw [← e3]
    have := (List.take_append_drop (q - p - 1) (S.drop (p + 1))).symm
    rw [List.drop_drop] at this
    have e5 : p + 1 + (q - p - 1) = q := by omega
    rw [e5] at this
    exact this
  rw [← e2, ← e4, ← e1, List.take_append_drop]
theorem rK {S : List Thing} {p q : Nat} {x : Int × Int} (hp : S[p]? = some (some x)) (hq : S[q]? = some (some x)) (hpq : p < q) (mid : ∀ i, p < i → i < q → S[i]? = some none) (hR : Fi (S.set q none)) :
    Cr S = S.set q none ∧ Cr (S.set q none) = S.set q none := by
  refine ⟨?_, gF hR⟩
  have lq : q < S.length := (List.getElem?_eq_some_iff.mp hq).1
  have hS := Z5 hp hq hpq mid
  have hT := Z5 (S := S.set q none) (p := p) (q := q) (a := some x) (b := none) (by rw [List.getElem?_set_ne (by omega)]; exact hp) (by rw [List.getElem?_set_self (by omega)]) hpq (fun i h1 h2 => by rw [List.getElem?_set_ne (by omega)]; exact mid i h1 h2)
  rw [List.take_set_of_le (by omega), List.drop_set_of_lt (by omega)] at hT
  have hR2 := hR
  rw [hT] at hR2
  have hA : (keysOf (none :: (S.take p ++ [some x]))).Pairwise (· < ·) := by
    unfold Fi at hR2
    rw [yS, YQ] at hR2
    show (keysOf (S.take p ++ [some x])).Pairwise _
    rw [yS, YQ]
    have := List.pairwise_append.mp hR2
    rw [List.pairwise_append]
    exact ⟨this.1, by simp [keysOf], fun a ha b hb => by
      have hb' : b = x.1 := by simpa [keysOf] using hb
      rw [hb']
      exact this.2.2 a ha x.1 CW⟩
  have hs : Ec none 0 S = some q := by
    rw [hS]
    have e : S.take p ++ some x :: (List.replicate (q - p - 1) none ++ some x :: S.drop (q + 1)) = (S.take p ++ [some x]) ++ (List.replicate (q - p - 1) none ++ some x :: S.drop (q + 1)) := by simp
    rw [e, ZK _ none 0 _ hA, AAi, rZ]
    show (if some x = some x then some _ else _) = _
    rw [if_pos rfl]
    congr 1
    rw [List.length_append, List.length_take]
    simp
    omega
  unfold Cr
  rw [hs]
end LL
namespace LL
open PySem L2
def VB : Am := (Al (Ay 3 (vS (Aw (BX Eb (Ab (Aa 0) (Ab (Aa 1) Ae)))))) (Al (Ay 4 (vS (Ai Fy (Ab (Aa 1) Ae)))) (Al (Bq (Ft (Ax (Ac Bj (Aa 4) (Ac Av (Aa 0) (Ad (.int 0))))) (Ax (Ac Ha (Ai Gk (Ab (Aa 3) (Ab (Ad (.int 0)) (Ab (Ai CN (Ab (Aa 3) Ae)) Ae)))) (Ai HD (Ab (Aa 0) (Ab (Aa 4) Ae))))))
      (Bh (Ad (.bool false))) CQ)
    (Bh (Ac J7 (Ai Ho (Ab (Aa 3) (Ab (Aa 2) Ae))) (Ad .none))))))
def Pa : List D → Option D := Ba 3 5 VB
def VM : Am := (Al (Bq (Ff (Ax (Ai Pa (Ab (Aa 0) (Ab (Aa 1) (Ab (Aa 2) Ae))))))
      (Dr (Bm Ae)) CQ)
    (Al (Ay 3 (vS (Ac Ed (Ad (.int 1)) (Ai Ik (Ab (Aa 1) Ae)))))
    (Al (Ay 4 (vS (Ac Ck (Ai Fy (Ab (Aa 1) Ae)) (Ad (.int 1)))))
    (Al (Ay 5 (vS (Aw (BX Ml (Ab (Aw (BX Eb (Ab (Aa 0) (Ab (Aa 1) Ae)))) Ae)))))
    (Al (Ay 6 (vS (Aw (BX rO (Ab (Ai CN (Ab (Aa 5) Ae)) (Ab (Ai Jt (Ab (Aa 0) (Ab (Aa 4) Ae))) Ae))))))
    (Al (Ay 7 (Gv (CT (BX LQ (Ab (Ac Av (Aa 1) (Aa 3)) Ae)) (Ks 0 1) (Ax (Ac Bu (Aa 1) (Be Ae))) (Be (Ab (Aa 0) (Ab (Be Ae) Ae))) 2 [])))
    (Al (Ay 8 (vS (Aw (rA (Ab (Aa 6) (Ab (Aa 5) Ae))))))
    (Dr (GF (Aw (BX Ln (Ab (Aa 3) (Ab (Aw (GF (Aa 7) (Aa 8))) Ae)))) (Aw (Bm (Ab (Be (Ab (Ad (.int 2)) (Ab (Ad (.int 0)) (Ab (Be (Ab (Aa 3) (Ab (Aa 4) Ae))) Ae)))) Ae))))))))))))
def Nh : List D → Option (List D) := Ci 3 9 VM
def AAH : Am := (Al (Ay 4 (vS (Aw (BX Nh (Ab (Aa 0) (Ab (Aa 1) (Ab (Aa 2) Ae))))))) (Al (Ay 5 (vS (Aw (Mu (NT HH (Ab (Aa 1) (Ab (Aa 4) Ae))))))) (Al (Ay 6 (vS (Aw (BX R1 (Ab (Aa 0) (Ab (Ai Fy (Ab (Aa 5) Ae)) (Ab (Aw (BX Eb (Ab (Aa 0) (Ab (Aa 5) Ae)))) (Ab (Aa 2) (Ab (Aa 3) Ae))))))))) (Dr (GF (Aa 4) (Aw (BX Ln (Ab (Ai Ik (Ab (Aa 5) Ae)) (Ab (Aa 6) Ae)))))))))
def WM : List D → Option (List D) := Ci 4 7 AAH
end LL
namespace L2
open PySem PySem.Spec PyProof.Rows
structure M1 (X : Cx) (o : Expr) (m : Str) (apos : Pos) (e : Expr) (cpos : Pos) : Prop where
  base : attributeBase o m X.env (eval o X.env) = eval o X.env
  few : ((backTo cpos (starEach [e] X.env)).all (fun x => !x.1) && (backToKw cpos (keywordEach [] X.env)).all (fun x => x.1.isSome)
    && decide (([e] : List Expr).length + ([] : List Keyword).length + (if ([] : List Keyword).isEmpty then 0 else 1) < 30)) = true
  line : (apos.endLine == cpos.line) = true
  trees : backTo cpos (starEach [e] X.env) = [(false, eval e X.env)]
structure M2 (X : Cx) (o : Expr) (m : Str) (apos : Pos) (e f : Expr) (cpos : Pos) : Prop where
  base : attributeBase o m X.env (eval o X.env) = eval o X.env
  few : ((backTo cpos (starEach [e, f] X.env)).all (fun x => !x.1) && (backToKw cpos (keywordEach [] X.env)).all (fun x => x.1.isSome)
    && decide (([e, f] : List Expr).length + ([] : List Keyword).length + (if ([] : List Keyword).isEmpty then 0 else 1) < 30)) = true
  line : (apos.endLine == cpos.line) = true
  trees : backTo cpos (starEach [e, f] X.env) = [(false, eval e X.env), (false, eval f X.env)]
end L2
namespace L2
open PySem PySem.Spec PyProof.Rows
end L2
namespace L2
open PySem PySem.Spec PyProof.Rows
section
variable {X : Cx} {K : Frag}
def ACs : List D → Option D
  | [.list ds] => some (.tuple ds)
  | [.tuple ds] => some (.tuple ds)
  | _ => none
end
end L2
namespace S22
open PySem L2 LL
def mQ : Am := (Bh (Gp (Jx "int" (Aa 0)) (Qw (Jx "bool" (Aa 0)))))
def Ip : List D → Option D := Ba 1 1 mQ
def X3 : Am := (Bh (Gp (Jx "tuple" (Aa 0)) (Gp (Ac Bj (Ai CN (Ab (Aa 0) Ae)) (Ad (.int 2))) (Gp (Ai Ip (Ab (Ac Av (Aa 0) (Ad (.int 0))) Ae)) (Ai Ip (Ab (Ac Av (Aa 0) (Ad (.int 1))) Ae))))))
def Mp : List D → Option D := Ba 1 1 X3
def Ww : Am := (Bh (Tz (Ai Mp (Ab (Aa 0) Ae)) (Gp (Jx "tuple" (Aa 0)) (Ac Bj (Ai CN (Ab (Aa 0) Ae)) (Ad (.int 0))))))
def Ky : List D → Option D := Ba 1 1 Ww
def Zu : Am := (Bh (Gp (Jx "list" (Aa 0)) (Gp (Ac Bj (Ai CN (Ab (Aa 0) Ae)) (Aa 1)) (Ai Lz (Ab (Aw (CT (DX (Aa 0)) (Ca 0) Cu (Ai Ky (Ab (Aa 0) Ae)) 1 [])) Ae)))))
def QL : List D → Option D := Ba 2 2 Zu
def YG : Am := (Bh (Gp (Ai Mp (Ab (Aa 1) Ae)) (Gp (Je Ih Ih (Ad (.int 0)) (Ac Av (Aa 1) (Ad (.int 0))) (Ad (.int 1))) (Je Ih Ih (Ad (.int 0)) (Ac Av (Aa 1) (Ad (.int 1))) (Ac Av (Aa 0) (Ad (.int 0)))))))
def Vf : List D → Option D := Ba 2 2 YG
def Zn : Am := (Al (Bq (Ft (Ff (Ax (Jx "list" (Aa 1)))) (Ax (Ac Bu (Ai CN (Ab (Aa 1) Ae)) (Ad (.int 3)))))
      (Bh (Ad (.bool false))) CQ)
    (Al (Ay 2 (vS (Ai Jt (Ab (Aa 0) (Ab (Ac Av (Aa 0) (Ad (.int 0))) Ae)))))
    (Al (Bq (Ft (Ff (Ax (Ai QL (Ab (Ac Av (Aa 1) (Ad (.int 0))) (Ab (Aa 2) Ae))))) (Ff (Ax (Ai QL (Ab (Ac Av (Aa 1) (Ad (.int 1))) (Ab (Aa 2) Ae))))))
      (Bh (Ad (.bool false))) CQ)
    (Al (Ay 3 (vS (Ac Av (Aa 1) (Ad (.int 2)))))
    (Bh (Gp (Jx "list" (Aa 3)) (Gp (Ac Bj (Ai CN (Ab (Aa 3) Ae)) (Ad (.int 1))) (Ai Vf (Ab (Aa 0) (Ab (Ac Av (Aa 3) (Ad (.int 0))) Ae))))))))))
def RK : List D → Option D := Ba 2 4 Zn
def bV : Am := (Al (Bq (Ff (Ax (Ai RK (Ab (Aa 0) (Ab (Aa 1) Ae)))))
      (Bh (Ad (.bool false))) CQ)
    (Al (Ay 2 (vS (Aw (BX Eb (Ab (Aa 0) (Ab (Aa 1) Ae))))))
    (Bh (Gp (Ai Tf (Ab (Aa 2) Ae)) (Ac Ih (Ai CN (Ab (Aw (BX Ml (Ab (Aa 2) Ae))) Ae)) (Ai HD (Ab (Aa 0) (Ab (Ai Fy (Ab (Aa 1) Ae)) Ae))))))))
def Ke : List D → Option D := Ba 2 3 bV
end S22
namespace S22
open PySem L2 LL
def DQ : D → Bool
  | .int _ => true
  | _ => false
def RQ : D → Bool
  | .tuple [x, y] => DQ x && DQ y
  | _ => false
def isPlace : D → Bool
  | .tuple [] => true
  | d => RQ d
def KY (n : Nat) : D → Bool
  | .list ds => decide (ds.length = n) && ds.all isPlace
  | _ => false
def isSign (t : Nat) : D → Bool
  | .tuple [.int x, .int y] => (decide (0 ≤ x) && decide (x ≤ 1)) && (decide (0 ≤ y) && decide (y ≤ (t : Int)))
  | _ => false
def bW (t : Nat) : D → Bool
  | .list [x] => isSign t x
  | _ => false
def ACy (n t : Nat) : D → Bool
  | .list [a, b, s] => (KY n a && KY n b) && bW t s
  | _ => false
theorem bU (d : D) : Ip [d] = some (.bool (DQ d)) := by
  cases d with
  | dict kvs => cases kvs <;> rfl
  | _ => rfl
def Fits : D → Prop
  | .list ds => ds.length < 16777216
  | .tuple ds => ds.length < 16777216
  | _ => True
theorem len_T (ds : List D) (h : ds.length < 16777216) : CN [.tuple ds] = some (.int (ds.length : Int)) := by
  rfl
theorem vU (d : D) (h : Fits d) : Mp [d] = some (.bool (RQ d)) := by
  cases d with
  | tuple ds =>
    have hl := len_T ds h
    match ds, hl with
    | [x, y], hl =>
      have h1 := bU x
      have h2 := bU y
      refine Cv (o := .rt (.bool _)) rfl ?_ rfl
      unfold X3
      show _ = some (Out.rt (.bool (DQ x && DQ y)))
      have hl2 : CN [.tuple [x, y]] = some (.int 2) := rfl
      clear h hl
      cases hx : DQ x <;> cases hy : DQ y <;> rw [hx] at h1 <;> rw [hy] at h2 <;> walk_at "pu"
    | [], hl => rfl
    | [x], hl => rfl
    | x :: y :: z :: r, hl =>
      refine Cv (o := .rt (.bool false)) rfl ?_ rfl
      unfold X3
      have h2 : ¬ (((x :: y :: z :: r).length : Int) = 2) := by simp; omega
      generalize ((x :: y :: z :: r).length : Int) = L at *
      clear h
      walk_at "pu"
  | dict kvs => cases kvs <;> rfl
  | _ => rfl
theorem Vy (d : D) (h : Fits d) : Ky [d] = some (.bool (isPlace d)) := by
  have hp := vU d h
  cases d with
  | tuple ds =>
    have hl := len_T ds h
    cases ds with
    | nil => rfl
    | cons x r =>
      have e : isPlace (.tuple (x :: r)) = RQ (.tuple (x :: r)) := rfl
      rw [e]
      have h2 : ¬ (((x :: r).length : Int) = 0) := by simp; omega
      refine Cv (o := .rt (.bool _)) rfl ?_ rfl
      unfold Ww
      generalize ((x :: r).length : Int) = L at *
      have ht : Jl "tuple" "tuple" = true := rfl
      clear h e
      cases hb : RQ (.tuple (x :: r)) <;> rw [hb] at hp <;> walk_at "pu"
  | list ds =>
    refine Cv (o := .rt (.bool false)) rfl ?_ rfl
    unfold Ww
    have hp' : Mp [.list ds] = some (.bool false) := hp
    have ht : Jl "list" "tuple" = false := rfl
    clear hp h
    walk_at "pu"
  | dict kvs => cases kvs <;> rfl
  | _ => rfl
theorem sH (d : D) (n : Nat) (h : Fits d) (hi : ∀ ds, d = .list ds → ∀ x ∈ ds, Fits x) : QL [d, .int (n : Int)] = some (.bool (KY n d)) := by
  cases d with
  | list ds =>
    have hl : ds.length < 16777216 := h
    have Kc : CT (DX (Aa 0)) (Ca 0) Cu (Ai Ky (Ab (Aa 0) Ae)) 1 [] [some (.list ds), some (.int (n : Int))] = some ((ds.map isPlace).map PyData.bool) := by
      refine (Hv (items := ds) rfl hl).trans ?_
      have := Oz (bd := Ca 0) (fe := Ai Ky (Ab (Aa 0) Ae)) (ρ0 := [none]) (fun x : D => x) (fun x => PyData.bool (isPlace x)) ds fun x hx => ⟨_, rfl, by
        have := Vy x (hi ds rfl x hx)
        show Option.bind (some [x]) Ky = _
        exact this⟩
      rw [List.map_id'] at this
      rw [List.map_map]
      exact this
    have hall : Lz [.list ((ds.map isPlace).map PyData.bool)] = some (.bool (ds.all isPlace)) := by
      show (Ol ((ds.map isPlace).map PyData.bool)).bind _ = _
      rw [vG]
      show some (PyData.bool ((ds.map isPlace).all id)) = _
      congr 2
      rw [List.all_map]
      rfl
    have hlen : CN [.list ds] = some (.int (ds.length : Int)) := rfl
    refine Cv (o := .rt (.bool (decide (ds.length = n) && ds.all isPlace))) rfl ?_ rfl
    unfold Zu
    generalize CT (DX (Aa 0)) (Ca 0) Cu (Ai Ky (Ab (Aa 0) Ae)) 1 [] = PC at *
    generalize (ds.map isPlace).map PyData.bool = BB at *
    by_cases e : ds.length = n
    · have e' : (ds.length : Int) = (n : Int) := by omega
      rw [decide_eq_true e, Bool.true_and]
      generalize (ds.length : Int) = L at *
      clear h hi hl e
      walk_at "pu"
    · have e' : ¬ (ds.length : Int) = (n : Int) := by omega
      rw [decide_eq_false e, Bool.false_and]
      generalize (ds.length : Int) = L at *
      clear h hi hl e hall Kc
      walk_at "pu"
  | dict kvs => cases kvs <;> rfl
  | _ => rfl
end S22
namespace S22
open PySem L2 LL
abbrev Az (t w st : Nat) : D := .tuple [.int (t : Int), .int (w : Int), .int (st : Int)]
theorem sign_eq (t w st : Nat) (d : D) (h : Fits d) : Vf [Az t w st, d] = some (.bool (isSign t d)) := by
  have hp := vU d h
  cases hb : RQ d with
  | false =>
    rw [hb] at hp
    have e : isSign t d = false := by
      unfold isSign
      split
      · cases hb
      · rfl
    rw [e]
    refine Cv (o := .rt (.bool false)) rfl ?_ rfl
    unfold YG
    clear h e hb
    walk_at "pu"
  | true =>
    rw [hb] at hp
    obtain ⟨x, y, rfl⟩ : ∃ x y : Int, d = .tuple [.int x, .int y] := by
      unfold RQ at hb
      split at hb
      · rename_i x y
        obtain ⟨h1, h2⟩ := Bool.and_eq_true_iff.mp hb
        unfold DQ at h1 h2
        split at h1
        · split at h2
          · exact ⟨_, _, rfl⟩
          · cases h2
        · cases h1
      · cases hb
    show _ = some (PyData.bool ((decide (0 ≤ x) && decide (x ≤ 1)) && (decide (0 ≤ y) && decide (y ≤ (t : Int)))))
    refine Cv (o := .rt (.bool _)) rfl ?_ rfl
    unfold YG
    clear h hb
    by_cases c1 : 0 ≤ x <;> by_cases c2 : x ≤ 1 <;> by_cases c3 : 0 ≤ y <;> by_cases c4 : y ≤ (t : Int) <;> walk_at "pu"
def NB : D → Prop
  | .list ds => ds.length < 16777216 ∧ ∀ x ∈ ds, Fits x
  | .tuple ds => ds.length < 16777216
  | _ => True
theorem NB.fits {d : D} (h : NB d) : Fits d := by
  cases d <;> first | exact h.1 | exact h | trivial
theorem NB.items {d : D} (h : NB d) : ∀ ds, d = .list ds → ∀ x ∈ ds, Fits x := by
  rintro ds rfl
  exact h.2
theorem AI6 {t w st : Nat} (t4 : t ≤ 4) {a b s : D} (ha : NB a) (hb : NB b) (hs : NB s) : RK [Az t w st, .list [a, b, s]] = some (.bool (ACy (2 ^ t * w) t (.list [a, b, s]))) := by
  have hp := places_eq (t := (t : Int)) (w := w) (st := st) (h := t) t4
  have h1 := sH a (2 ^ t * w) ha.fits ha.items
  have h2 := sH b (2 ^ t * w) hb.fits hb.items
  show _ = some (PyData.bool ((KY (2 ^ t * w) a && KY (2 ^ t * w) b) && bW t s))
  generalize 2 ^ t * w = N at *
  have hl3 : CN [.list [a, b, s]] = some (.int 3) := rfl
  have i0 : Av (.list [a, b, s]) (.int 0) = some a := rfl
  have i1 : Av (.list [a, b, s]) (.int 1) = some b := rfl
  have i2 : Av (.list [a, b, s]) (.int 2) = some s := rfl
  have ty : Ib (.list [a, b, s]) = "list" := rfl
  refine Cv (o := .rt (.bool _)) rfl ?_ rfl
  unfold Zn
  show Al _ _ [.sh (Az t w st), .sh (.list [a, b, s]), .no, .no] = _
  generalize PyData.list [a, b, s] = L at *
  refine Bp (ρ' := [.sh (Az t w st), .sh L, .no, .no]) (by clear hp h1 h2 i0 i1 i2 ha hb hs; walk_at "pu") ?_
  refine Bp (ρ' := [.sh (Az t w st), .sh L, .sh (.int (N : Int)), .no]) (by clear h1 h2 i0 i1 i2 ha hb hs hl3 ty; walk_at "pu") ?_
  clear hp
  cases qa : KY N a with
  | false =>
    rw [qa] at h1
    refine Mf ?_
    clear h2 i1 i2 ha hb hs hl3 ty
    walk_at "pu"
  | true =>
    rw [qa] at h1
    cases qb : KY N b with
    | false =>
      rw [qb] at h2
      refine Mf ?_
      clear i2 ha hb hs hl3 ty
      walk_at "pu"
    | true =>
      rw [qb] at h2
      refine Bp (ρ' := [.sh (Az t w st), .sh L, .sh (.int (N : Int)), .no]) (by clear i2 ha hb hs hl3 ty; walk_at "pu") ?_
      refine Bp (ρ' := [.sh (Az t w st), .sh L, .sh (.int (N : Int)), .sh s]) (by clear h1 h2 i0 i1 ha hb hs hl3 ty; walk_at "pu") ?_
      clear h1 h2 i0 i1 i2 hl3 ty ha hb
      show _ = some (Out.rt (.bool (bW t s)))
      cases s with
      | list ds =>
        match ds, hs with
        | [x], hs =>
          have hx := sign_eq t w st x (hs.2 x (.head _))
          have e1 : CN [.list [x]] = some (.int 1) := rfl
          have e2 : Av (.list [x]) (.int 0) = some x := rfl
          have e3 : Ib (.list [x]) = "list" := rfl
          show _ = some (Out.rt (.bool (isSign t x)))
          generalize PyData.list [x] = S at *
          clear hs
          walk_at "pu"
        | [], hs => rfl
        | x :: y :: r, hs =>
          have e1 : CN [.list (x :: y :: r)] = some (.int ((x :: y :: r).length : Int)) := rfl
          have e2 : ¬ ((x :: y :: r).length : Int) = 1 := by simp; omega
          have e3 : Ib (.list (x :: y :: r)) = "list" := rfl
          show _ = some (Out.rt (.bool false))
          generalize PyData.list (x :: y :: r) = S at *
          generalize ((x :: y :: r).length : Int) = M at *
          clear hs
          walk_at "pu"
      | dict kvs => cases kvs <;> rfl
      | _ => rfl
theorem AEX (x : Thing) : isPlace (encD x) = true := by
  cases x <;> rfl
theorem ACg (x : Thing) : Fits (encD x) := by
  cases x with
  | none => show ([] : List D).length < 16777216; decide
  | some p => show ([.int p.1, .int p.2] : List D).length < 16777216; simp
theorem ADt (ts : List Thing) : (ts.map encD).all isPlace = true := List.all_eq_true.mpr fun d hd => by
  obtain ⟨x, _, rfl⟩ := List.mem_map.mp hd
  exact AEX x
theorem qQ {ts : List Thing} {n : Nat} : KY n (encL ts) = decide (ts.length = n) := by
  show (decide ((ts.map encD).length = n) && (ts.map encD).all isPlace) = _
  rw [ADt, Bool.and_true, List.length_map]
theorem iG {ts : List Thing} (h : ts.length < 16777216) : NB (encL ts) := ⟨by rw [List.length_map]; exact h, fun d hd => by
  obtain ⟨x, _, rfl⟩ := List.mem_map.mp hd
  exact ACg x⟩
theorem AGU {t w st n a h : Nat} {k : Dk} {A B : List Thing} (bd : Bd (t : Int) (w : Int) (st : Int)) (d : Ej k (2 ^ t * w) a h A B) (ht : h ≤ t) :
    Ke [Az t w st, BK k] = some (.bool (decide (Fi (Cr (Bx w k a h))) && decide ((((Cr (Bx w k a h)).filter FJ).length : Int) ≤ 2 ^ h * ((w : Int) - (h : Int) * (st : Int))))) := by
  have t4 : t ≤ 4 := by have := bd.t4; omega
  have w20 : w ≤ 20 := by have := bd.hi; omega
  have hp : 2 ^ t ≤ 16 := by
    have : 2 ^ t ≤ 2 ^ 4 := Nat.pow_le_pow_right (by decide) t4
    omega
  have hN : 2 ^ t * w ≤ 320 := by
    have := Nat.mul_le_mul hp w20
    omega
  have s20 : st ≤ 20 := by
    have h1 := bd.lo
    have h2 := bd.t0
    have h3 : (st : Int) * 2 ≤ (st : Int) * ((t : Int) + 2) := Int.mul_le_mul_of_nonneg_left (by omega) (by omega)
    omega
  have ek : BK k = .list [encL A, encL B, encL [some ((a : Int), (h : Int))]] := by rw [d.eq]; rfl
  have hf : RK [Az t w st, BK k] = some (.bool true) := by
    rw [ek, AI6 t4 (iG (by rw [d.lA]; omega)) (iG (by rw [d.lB]; omega)) (iG (by simp))]
    show some (PyData.bool ((KY (2 ^ t * w) (encL A) && KY (2 ^ t * w) (encL B)) && isSign t (encD (some ((a : Int), (h : Int)))))) = _
    rw [qQ, qQ, decide_eq_true d.lA, decide_eq_true d.lB]
    have a2 := d.a2
    show some (PyData.bool ((true && true) && ((decide (0 ≤ (a : Int)) && decide ((a : Int) ≤ 1)) && (decide (0 ≤ (h : Int)) && decide ((h : Int) ≤ (t : Int)))))) = _
    rw [decide_eq_true (by omega), decide_eq_true (by omega), decide_eq_true (by omega), decide_eq_true (by omega)]
    rfl
  have hs := Qt (w := w) (st := st) (t := (t : Int)) d (by omega : h ≤ 4)
  have hlen : (Bx w k a h).length < 16777216 := by
    unfold Bx
    have := d.ar.2
    rw [List.length_take, this]
    omega
  have hso := AJG (Bx w k a h) hlen
  have hro := n8 (Bx w k a h) hlen
  have hh := R3 d
  have hc := gC (t := (t : Int)) (w := w) (st := st) (h := h) (by omega) s20
  generalize Bx w k a h = S at *
  have hlr : CN [.list (((Cr S).filter FJ).map encD)] = some (.int (((Cr S).filter FJ).length : Int)) := by
    show some (PyData.int ((((Cr S).filter FJ).map encD).length : Int)) = _
    rw [List.length_map]
  generalize BK k = E at *
  refine Cv (o := .rt (.bool _)) rfl ?_ rfl
  unfold bV
  show Al _ _ [.sh (Az t w st), .sh E, .no] = _
  have e1 : ∀ ds : List D, Lw (.list ds) = some ds := fun ds => rfl
  refine Bp (ρ' := [.sh (Az t w st), .sh E, .no]) (by clear hs hso hro hh hc hlr ek; walk_at "pu") ?_
  refine Bp (ρ' := [.sh (Az t w st), .sh E, .sh (.list (S.map encD))]) (by clear hf hso hro hh hc hlr ek; walk_at "pu") ?_
  clear hf hs ek
  generalize (2 : Int) ^ h * ((w : Int) - (h : Int) * (st : Int)) = C at *
  generalize S.map encD = SD at *
  generalize ((Cr S).filter FJ).map encD = RD at *
  generalize (((Cr S).filter FJ).length : Int) = M at *
  cases q1 : decide (Fi (Cr S)) with
  | false =>
    rw [q1] at hso
    clear hro hh hc hlr q1
    walk_at "pu"
  | true =>
    rw [q1] at hso
    clear q1
    walk_at "pu"
end S22
namespace S22
open PySem L2 LL
end S22
namespace S22
open PySem L2 LL
end S22
namespace S22
open PySem L2 LL
abbrev Pq := Int × Int
def Up (L : List Pq) : Prop := (L.map (·.1)).Pairwise (· < ·)
theorem zG {ts : List Thing} : Fi ts ↔ Up (things ts) := by
  unfold Fi Up
  rw [XN]
theorem AAR {ts S : List Thing} (h : Fi ts) (tw : sX ts S) : Fi (Cr S) ∧ things (Cr S) = things ts := by
  rcases tw.way with rfl | ⟨p, q, x, hp, hq, mid, rfl⟩
  · rw [gF h]; exact ⟨h, rfl⟩
  · have lp := (List.getElem?_eq_some_iff.mp hp).1
    have lq := (List.getElem?_eq_some_iff.mp hq).1
    have hpq : p ≠ q := fun z => by rw [z, hq] at hp; cases hp
    have gp : (ts.set q (some x))[p]? = some (some x) := by rw [List.getElem?_set_ne (Ne.symm hpq)]; exact hp
    have gq : (ts.set q (some x))[q]? = some (some x) := List.getElem?_set_self lq
    have back : (ts.set q (some x)).set q none = ts := by
      rw [List.set_set]
      apply List.ext_getElem?
      intro i
      by_cases hi : q = i
      · subst hi; rw [List.getElem?_set_self lq, hq]
      · rw [List.getElem?_set_ne hi]
    rcases Nat.lt_or_gt_of_ne hpq with hlt | hgt
    · have := rK (S := ts.set q (some x)) gp gq hlt (fun i h1 h2 => by rw [List.getElem?_set_ne (by omega)]; exact mid i (.inl ⟨h1, h2⟩)) (by rw [back]; exact h)
      rw [this.1, back]
      exact ⟨h, rfl⟩
    · -- the new one ahead
      have sp := Z5 (S := ts) hq hp hgt (fun i h1 h2 => mid i (.inr ⟨h1, h2⟩))
      have tn : ∀ n, things (List.replicate n none) = [] := fun n => by
        induction n with
        | zero => rfl
        | succ n ih => rw [List.replicate_succ, rM, ih]
      generalize hT1 : ts.take q = T1 at sp
      generalize hT2 : ts.drop (p + 1) = T2 at sp
      have l1 : T1.length = q := by rw [← hT1, List.length_take]; omega
      generalize hn : p - q - 1 = n at sp
      have eS : ts.set q (some x) = (T1 ++ some x :: List.replicate n none) ++ some x :: T2 := by
        rw [sp, List.set_append_right _ _ (by omega), l1, Nat.sub_self, List.set_cons_zero]
        simp
      have lS : (T1 ++ some x :: List.replicate n none).length = p := by
        rw [List.length_append, List.length_cons, List.length_replicate]
        omega
      have eB : (ts.set q (some x)).set p none = (T1 ++ some x :: List.replicate n none) ++ none :: T2 := by
        rw [eS, List.set_append_right _ _ (by omega), lS, Nat.sub_self, List.set_cons_zero]
      have tB : things ((ts.set q (some x)).set p none) = things ts := by
        rw [eB, sp]
        simp only [AGn, oU, rM, tn, List.append_nil, List.nil_append, List.append_assoc, List.cons_append]
      have rB : Fi ((ts.set q (some x)).set p none) := zG.mpr (by rw [tB]; exact zG.mp h)
      have := rK (S := ts.set q (some x)) gq gp hgt (fun i h1 h2 => by rw [List.getElem?_set_ne (by omega)]; exact mid i (.inr ⟨h1, h2⟩)) rB
      rw [this.1, tB]
      exact ⟨rB, rfl⟩
end S22
namespace S22
open PySem L2 LL
theorem AEW {t w st : Nat} {h : Nat} (h4 : h ≤ 4) : Mq [.tuple [.int (t : Int), .int (w : Int), .int (st : Int)], .int (h : Int)] = some (.int (tw (h : Int) * ((w : Int) - (h : Int) * (st : Int)))) := by
  have Kh := Zy (h := (h : Int)) (by omega) (by omega)
  have hTs : -18446744073709551616 < tw (h : Int) ∧ tw (h : Int) < 18446744073709551616 := by
    rcases jP (h := (h : Int)) (by omega) (by omega) with e | e | e | e | e <;> omega
  have hhs : -18446744073709551616 < (h : Int) ∧ (h : Int) < 18446744073709551616 := by omega
  generalize tw (h : Int) = T at *
  refine Cv (o := .rt (.int (T * ((w : Int) - (h : Int) * (st : Int))))) rfl ?_ rfl
  unfold bN
  walk_at "pu"
theorem room {t w st h : Nat} (bd : Bd (t : Int) (w : Int) (st : Int)) (ht : h ≤ t) : 2 ≤ (w : Int) - (h : Int) * (st : Int) ∧ (w : Int) - (h : Int) * (st : Int) ≤ w ∧ (1 ≤ h → (w : Int) - (h : Int) * (st : Int) ≤ (w : Int) - 1) ∧ (w ≤ 2 → t = 0) := by
  have lo := bd.lo
  have s1 := bd.s1
  have e : (st : Int) * ((t : Int) + 2) = (t : Int) * (st : Int) + 2 * (st : Int) := by rw [Int.mul_add, Int.mul_comm (st : Int) (t : Int), Int.mul_comm (st : Int) 2]
  have h1 : (h : Int) * (st : Int) ≤ (t : Int) * (st : Int) := Int.mul_le_mul_of_nonneg_right (by omega) (by omega)
  have h2 : 0 ≤ (h : Int) * (st : Int) := Int.mul_nonneg (by omega) (by omega)
  refine ⟨by omega, by omega, fun hh => ?_, fun hw => ?_⟩
  · have h3 : 1 * 1 ≤ (h : Int) * (st : Int) := Int.mul_le_mul (by omega) (by omega) (by omega) (by omega)
    omega
  · have h4 : (t : Int) * 1 ≤ (t : Int) * (st : Int) := Int.mul_le_mul_of_nonneg_left (by omega) (by omega)
    omega
structure AKb (X R : List Pq) : Prop where
  len : R.length ≤ X.length + 2
  bad : ∀ S : List Thing, things S = R → ¬ Fi (Cr S)
end S22
namespace S22
open PySem L2 LL
theorem AJW (ts : List Thing) : (things ts).length = (keysOf ts).length := by rw [XN, List.length_map]
theorem zV (ts : List Thing) : (ts.filter FJ).length = (things ts).length := by
  have := congrArg List.length (dG ts)
  rw [List.length_map, List.length_map] at this
  exact this
end S22
namespace S22
open PySem L2 LL
theorem ABq {t w st a h : Nat} {k : Dk} {A B ts S : List Thing} {q : Int} (bd : Bd (t : Int) (w : Int) (st : Int)) (d : Ej k (2 ^ t * w) a h A B) (ht : h ≤ t) (hs : Bx w k a h = S) (r : Fi ts) (tw : sX ts S) (hq : ((keysOf ts).length : Int) ≤ 2 ^ h * ((w : Int) - (h : Int) * (st : Int))) :
    Ke [Az t w st, BK k] = some (.bool true) := by
  obtain ⟨r1, r2⟩ := AAR r tw
  rw [AGU (n := 0) bd d ht, hs, decide_eq_true r1, decide_eq_true (by rw [zV, r2, AJW]; exact hq)]
  rfl
end S22
namespace L2
open PySem PySem.Spec PyProof.Rows
def Hr : List Value := [.type "ValueError", .type "Exception", .type "BaseException", .type "object"]
theorem rP {K : Frag} {h : Heap} {C : Addr} {bmB : List Value} {newId : String} (X : K.In h) (q : excIn K C bmB newId = true) : ∃ bm N nm qn bs hdct sn sub ab col dd k0 k1 k2 k3 k5 mN,
    h.get? C = some (excClassObj nm qn C N bs bm hdct sn sub ab col dd k0 k1 k2 k3 k5 newId) ∧ h.Ns N mN ∧ mN "__init__" = none ∧ OwnTail h bmB bm := by
  unfold excIn at q
  split at q
  · rename_i dd cd sl ho
    split at q
    · rename_i C' bm k0 k1 k2 k3 n k5 hm hs
      simp only [Bool.and_eq_true, beq_iff_eq, Bool.not_eq_true'] at q
      obtain ⟨⟨⟨⟨⟨rfl, rfl⟩, hdel⟩, ht⟩, hok⟩, hni⟩ := q
      obtain ⟨nm, bs, mro, ns, qn, hd, sn, sub, ab, col, del⟩ := cd
      dsimp only at hm hdel hok hni
      subst hm hdel
      have hsl : sl = #[k0, k1, k2, k3, some (.builtin n), k5] := by
        obtain ⟨l⟩ := sl
        simp only at hs
        rw [hs]
      subst hsl
      exact ⟨bm, ns, nm, qn, bs, hd, sn, sub, ab, col, dd, k0, k1, k2, k3, k5, _, X _ _ ho, .of_isNs (PySem.W.isNs_of_in X hok), PySem.W.nsMap_none_of_in X hok hni, PySem.W.tail_of_in X ht⟩
    · cases q
  · cases q
section
variable {X : Cx} {x : Str} {C : Addr} {e₀ : Expr} {rest : List Expr} {t : TA} {np cpos pos : Pos}
theorem AIf {XR : Hp → Prop} (hh : X.A.handled = none) (hg : Gl X x) (hm : X.mg x = some (.ref C)) (hq : excIn X.K C Hr "ValueError.__new__" = true) (ha : PA X (e₀ :: rest) t) (hx : ∀ (pins : List (Addr × Obj)) (σ : St) (H : Hp) (s : Shared) (h' : Heap) (e : Addr) (vs : List Value), Inv X pins σ H s → Heap.MadeExcOf s.heap h' e (.ref C) vs → XR H → X.xe (.ref e) { s with heap := h' }) (he : starEach (e₀ :: rest) X.env = (false, eval e₀ X.env) :: starEach rest X.env := by rfl) (hplain : (backTo cpos (starEach rest X.env)).any (·.1) = false := by rfl) (hd : (x == ("__debug__" : Str)) = false := by decide) :
    PS X (.Raise (some (.Call (.Name x np) (e₀ :: rest) [] cpos)) none pos) (fun _ σ H => t σ H fun vs H1 => vs.length ≤ sizeLine ∧ XR H1) := by
  intro pins s σ H D I h
  obtain ⟨tl, N, nm, q, bs, hdct, sn, sub, ab, col, dd, k0, k1, k2, k3, k5, mN, hC, hN, hni, T⟩ := rP I.mod.kin hq
  refine wpAny_Raise_call_subU (C := C) (nm := nm) (q := q) (N := N) (bs := bs) (bm := tl) (hdct := hdct) (sn := sn) (sub := sub) (ab := ab) (col := col) (dd := dd) (k0 := k0) (k1 := k1) (k2 := k2) (k3 := k3) (k5 := k5)
    PySem.F.excBase_ValueError (by decide) PySem.F.excBase_ValueError (mN := mN) (T.hasType PySem.F.excBase_ValueError.hasBase) hh (by rw [he]; show (false || (backTo cpos (starEach rest X.env)).any (·.1)) = false; rw [hplain]; rfl) hni (RG I hg hm ⟨rfl, ?_⟩ hd)
  have ha' := ha cpos pins s σ H _ I h
  rw [he] at ha' ⊢
  refine Calls.evalArgs_plain (wpAny_mono ha' (fun us s2 h2 => ?_) fun _ _ y => y)
  obtain ⟨vs, H1, I1, r1, hl, xr⟩ := h2
  have kp : ∀ b o, X.base.get? b = some o → s2.heap.get? b = some o := fun b o e => (I1.bs b o e).1
  exact ⟨rfl, by rw [← r1.length]; exact hl, kp _ _ hC, hN.keeps kp, T.keeps kp, fun h' e hmade => hx pins σ H1 s2 h' e us I1 hmade xr⟩
end
theorem Es.some {P : Program} {w : World} {H : Hp} {h : Heap} {a : Addr} {o : HO} (x : Es P w H h a o) : ∃ u, h.get? a = some u := by
  induction o with
  | lst xs => obtain ⟨_, _, _, _, e⟩ := x; exact ⟨_, e⟩
  | tup xs => obtain ⟨_, _, _, ob, e, _⟩ := x; exact ⟨_, e⟩
  | dK kvs => obtain ⟨_, _, _, _, ob, _, _, e, _⟩ := x; exact ⟨_, e⟩
  | dT kvs => obtain ⟨_, _, _, _, ob, _, _, e, _⟩ := x; exact ⟨_, e⟩
  | set S n => obtain ⟨ob, _, _, _, e, _⟩ := x; exact ⟨_, e⟩
  | ins C dx fs => obtain ⟨_, _, _, e, _⟩ := x; exact ⟨_, e⟩
  | own y => obtain ⟨ob, e⟩ := x; exact ⟨_, e⟩
  | xd fs => obtain ⟨_, ⟨od, _, _, e, _⟩, _⟩ := x; exact ⟨_, e⟩
  | rng lo hi => obtain ⟨_, _, _, e⟩ := x; exact ⟨_, e⟩
  | frz ob u ih => obtain ⟨e, q⟩ := x; exact ⟨_, e⟩
  | tbl ps => exact ⟨_, x⟩
  | met f y => exact ⟨_, x⟩
  | ext φ => obtain ⟨_, e, _⟩ := x; exact e
def Fe (P : Program) (w : World) : Hg := fun outer H s E e s' => ∃ (a t : Addr) (cls : Value) (B : Heap) (H' : Hp), e = .ref a ∧ s'.os = s.os ∧ AllBare s'.gens ∧ Heap.FlyingW B outer a cls (.ref t) s'.heap ∧
  (∀ h', B.StaysIn h' → s'.heap.UpToSlots h' → Un (DG outer) [] H H' s.heap h' ∧ Ea P w H' h') ∧ (∀ b o, s.heap.get? b = some o → b ∉ DG outer → H b = none → B.get? b = some o) ∧ s.heap.get? a = none ∧ H' a = none ∧ E cls none H'
section
variable {P : Program} {w : World} {K : Frag} {mg : Str → Option Value} {base : Heap} {N : List Str} {qual : Str} {scope : Scope} {f : Addr} {cd : Value} {A : Around} {outer : List Env} {s : Shared} {H : Hp} {E : XK}
theorem AFw {C : Addr} (pins : List (Addr × Obj)) (σ : St) (H1 : Hp) (s1 : Shared) (h' : Heap) (e : Addr) (vs : List Value) (I : Inv (Dh (Fe P w) P w K mg base N qual scope f cd A outer s H E) pins σ H1 s1) (hx : Heap.MadeExcOf s1.heap h' e (.ref C) vs) (hE : E (.ref C) none H1) : (Dh (Fe P w) P w K mg base N qual scope f cd A outer s H E).xe (.ref e) { s1 with heap := h' } := by
  show wpAny (model P w) (A.deeper (envOfC qual scope s.heap.objs.size f cd)) (leaving (envOfC qual scope s.heap.objs.size f cd) (.ref e)) _ _ _
  have hst : s1.heap.FunFrames base (envOfC qual scope s.heap.objs.size f cd :: outer) := I.stack
  have hin : ∀ env ∈ (envOfC qual scope s.heap.objs.size f cd :: outer), ∀ b, env.frame = some b → b ∈ DG (envOfC qual scope s.heap.objs.size f cd :: outer) := fun env he b hb => List.mem_filterMap.mpr ⟨env, he, hb⟩
  refine wpAny_leaves_madeW (base := PySem.W.hideAll s1.heap (DG (envOfC qual scope s.heap.objs.size f cd :: outer))) (L := s.heap.objs.size) I.ok.frames rfl (fun b o q => PySem.W.of_hideAll _ q) (PySem.W.funFrames_hide hst hin) hx fun h2 t x1 x2 x3 x4 => ?_
  have hup : s1.heap.UpToSlots h2 := (Heap.UpToSlots.of_keeps hx.keeps).trans x4
  have inB : ∀ b o, s1.heap.get? b = some o → b ∉ DG (envOfC qual scope s.heap.objs.size f cd :: outer) → (PySem.W.hideAll s1.heap (DG (envOfC qual scope s.heap.objs.size f cd :: outer))).get? b = some o := fun b o q n => PySem.W.hideAll_get _ q n
  have fr : ∀ b, b ∈ DG (envOfC qual scope s.heap.objs.size f cd :: outer) → b = s.heap.objs.size ∨ b ∈ DG outer := fun b hb => by
    obtain ⟨env, he, hf⟩ := List.mem_filterMap.mp hb
    rcases List.mem_cons.mp he with rfl | he
    · exact .inl (Option.some.inj hf).symm
    · exact .inr (List.mem_filterMap.mpr ⟨env, he, hf⟩)
  have fr' : ∀ b, b ∈ DG outer → b ∈ DG (envOfC qual scope s.heap.objs.size f cd :: outer) := fun b hb => by
    obtain ⟨env, he, hf⟩ := List.mem_filterMap.mp hb
    exact List.mem_filterMap.mpr ⟨env, .tail _ he, hf⟩
  have old : ∀ b o, s.heap.get? b = some o → b ∉ DG outer → b ∉ DG (envOfC qual scope s.heap.objs.size f cd :: outer) := fun b o q n hb => by
    rcases fr b hb with z | z
    · subst z; exact absurd (Heap.lt_size q) (Nat.lt_irrefl _)
    · exact n z
  have un : Un (DG outer) [] H H1 s.heap s1.heap := I.base
  have free : ∀ b ∈ DG (envOfC qual scope s.heap.objs.size f cd :: outer), H1 b = none := I.Zd
  have hok : Ea P w H1 s1.heap := I.hok
  refine ⟨e, t, .ref C, _, H1, rfl, I.os, I.bare, x1, fun h3 hB hu => ?_, fun b o q n hn => inB b o (un.keep b o q hn n (by simp)) (old b o q n), ?_, ?_, hE⟩
  case refine_2 =>
    cases q : s.heap.get? e with
    | none => rfl
    | some o =>
      obtain ⟨o', q1⟩ := un.there e o q (by simp)
      rw [hx.new] at q1
      cases q1
  case refine_3 =>
    cases q : H1 e with
    | none => rfl
    | some o =>
      obtain ⟨u, q1⟩ := (hok e o q).some
      rw [hx.new] at q1
      cases q1
  have hu' := hup.trans hu
  have frame : ∀ b o, s1.heap.get? b = some o → b ∈ DG (envOfC qual scope s.heap.objs.size f cd :: outer) → ∃ sl, h3.get? b = some { o with slots := sl } := fun b o q hb => by
    obtain ⟨_, o', ho', hd⟩ := hst.mem hb
    rw [q] at ho'
    cases ho'
    exact hu' b o q hd
  refine ⟨⟨fun b o q hn hb _ => hB b o (inB b o (un.keep b o q hn hb (by simp)) (old b o q hb)), fun b o q hn hb _ => ?_, fun b o q hn _ => un.free b o q hn (by simp), fun b o q _ => ?_, un.tups, un.frzs, un.tbls⟩, fun a o q => (hok a o q).KZ (fun b u hb qb => ?_) (fun _ q => q) fun _ _ q => q⟩
  · obtain ⟨sl, q1⟩ := un.slot b o q hn hb (by simp)
    obtain ⟨sl2, q2⟩ := frame b _ q1 (fr' b hb)
    exact ⟨sl2, q2⟩
  · obtain ⟨o', q1⟩ := un.there b o q (by simp)
    by_cases hb : b ∈ DG (envOfC qual scope s.heap.objs.size f cd :: outer)
    · obtain ⟨sl, q2⟩ := frame b o' q1 hb
      exact ⟨_, q2⟩
    · exact ⟨o', hB b o' (inB b o' q1 hb)⟩
  · have hnf : b ∉ DG (envOfC qual scope s.heap.objs.size f cd :: outer) := fun z => by
      have hf := free b z
      rcases hb with rfl | hb
      · rw [hf] at q; cases q
      · rw [hf] at hb; cases hb
    exact hB b u (inB b u qb hnf)
end
end L2
namespace L2
open PySem PySem.Spec PyProof.Rows PySem.W
structure Lj (K : Frag) (C : Addr) : Prop where
  ga : findIn K (.ref C) "__getattribute__" = some (some (.builtin "BaseException.__getattribute__"))
  gt : findIn K (.ref C) "__getattr__" = some none
  cl : findIn K (.ref C) "__class__" = some (some (.builtin "object.__class__"))
  mB : mroIn K C (.type "BaseException") = some true
  mO : mroIn K C (.type "object") = some true
section
variable {prog : Program} {w : World} {A : Around} {E : Value → Shared → Prop} {K : Frag} {h : Heap} {g : Array GenState} {d : Drawn} {t : Nat} {os : OsState} {a C : Addr} {o : Obj}
theorem AEU {R : Result → Shared → Prop} {tp : Value} (X : K.In h) (hx : h.get? a = some o) (hc : o.cls = .ref C) (hm : mroIn K C (.type "object") = some true) (hq : R (.ok (.ret (.ref C))) ⟨h, g, d, t, os⟩) : codeAny (model prog w) A (.call (.builtin "getset_descriptor.__get__") ⟨[.builtin "object.__class__", .ref a, tp], []⟩) R ⟨h, g, d, t, os⟩ := by
  have L1 := looks_mroIn (M := model prog w) X hm
  have L0 : Looks (model prog w) h (typeOf (.ref a)) (.ref C) := hc ▸ (Looks.ld hx).andThen .now
  refine codeAny_call_builtin KF.slot_gs.plain KF.entry_gs (KF.slot_gs.check _ _ _ _ _ _ _ _ KF.type_class (KF.args_gs _ _ _) ?_)
  unfold Builtin.«getset_descriptor.__get__» Builtin.Getset_descriptor.descrGet
  rw [dga_obj]
  refine wpAny_bind (wpAny_pure ?_)
  unfold Builtin.Getset_descriptor.descrGetter Builtin.Getset_descriptor.descrCheckInstance Builtin.Getset_descriptor.descrNameAndClass isInstance
  simp only [KF.owner_class]
  repeat (first | with_reducible refine L0.at ?_ | with_reducible refine L1.at ?_ | wp_step)
  refine ⟨Code.quiet_builtin _ (by decide +kernel), codeAny_builtin KF.entry_class ?_⟩
  unfold Builtin.«object.__class__» shownTypeOf
  repeat (first | with_reducible refine L0.at ?_ | with_reducible refine L1.at ?_ | wp_step)
  exact hq
theorem ADK {nameV : Value} {Q : Unit → Shared → Prop} (FK : Lj K C) (X : K.In h) (hx : h.get? a = some o) (hc : o.cls = .ref C) (hq : Q () ⟨h, g, d, t, os⟩) :
    wpAny (model prog w) A (checkBuiltinCall "BaseException.__getattribute__" ⟨[.ref a, nameV], []⟩) Q E ⟨h, g, d, t, os⟩ := by
  have hk : builtinKind "BaseException.__getattribute__" = some .slot := by decide +kernel
  have hsplit : splitId "BaseException.__getattribute__" = some ("BaseException", "__getattribute__") := by decide +kernel
  have ha := F.args_bexc_ga (.ref a) nameV
  have L := looks_mroIn (M := model prog w) X FK.mB
  simp only [checkBuiltinCall, hk, hsplit]
  refine wpAny_bind ?_
  unfold isInstance
  repeat (first | (with_reducible refine wpAny_loadPart_at hx ?_; rw [hc]) | with_reducible refine L.at ?_ | wp_step)
  exact hq
theorem AJo {tk : Tok} {Q : Fin → Shared → Prop} (FK : Lj K C) (X : K.In h) (hx : h.get? a = some o) (hc : o.cls = .ref C) (hq : Q (.done (.ret (.ref C))) ⟨h, g, d, t, os⟩) :
    wpAny (model prog w) A (Builtin.«object.__getattribute__» ⟨[.ref a, .str "__class__" tk], []⟩) Q E ⟨h, g, d, t, os⟩ := by
  have L := looks_findIn (M := model prog w) X FK.cl
  have f5 : typeOf (.builtin "object.__class__") = pure (.type "getset_descriptor") := by
    have hk : builtinKind "object.__class__" = some .getset := by decide +kernel
    have hop : withoutEnding? "object.__class__" "#opaque" = none := by decide +kernel
    have hdat : withoutEnding? "object.__class__" "#data" = none := by decide +kernel
    simp only [typeOf, builtinType, hop, hdat, hk]
    rfl
  have f6 := F.slot_gs_get.lookup
  have f7 := F.slot_gs_set.lookup
  repeat (any_goals (first | assumption | (with_reducible refine wpAny_loadPart_at hx ?_; rw [hc]) | with_reducible refine L.at ?_ | wp_step))
  exact AEU X hx hc FK.mO (wpAny_pure hq)
theorem z7 {tk : Tok} {fill expr : Bool} {Q : Value → Shared → Prop} (FK : Lj K C) (X : K.In h) (hx : h.get? a = some o) (hc : o.cls = .ref C) (hq : Q (.ref C) ⟨h, g, d, t, os⟩) :
    wpAny (model prog w) A (getAttrBy (.ref a) (.str "__class__" tk) fill expr) Q E ⟨h, g, d, t, os⟩ := by
  have f3 : bindSpecial (.builtin "BaseException.__getattribute__") (.ref a) = pure (.builtin "BaseException.__getattribute__", [.ref a]) := by
    have hk : builtinKind "BaseException.__getattribute__" = some .slot := by decide +kernel
    have hop : withoutEnding? "BaseException.__getattribute__" "#opaque" = none := by decide +kernel
    have hdat : withoutEnding? "BaseException.__getattribute__" "#data" = none := by decide +kernel
    simp only [bindSpecial, typeOf, builtinType, hop, hdat, hk]
    rfl
  have hx0 : (expr && onTheHeap (Value.builtin "BaseException.__getattribute__")) = false := by cases expr <;> rfl
  have hx2 : (Value.builtin "BaseException.__getattribute__" == Value.builtin "object.__getattribute__") = false := by decide +kernel
  have hx1 : (onTheHeap (Value.ref C) && Value.builtin "BaseException.__getattribute__" == Value.builtin "object.__getattribute__") = false := by rw [hx2]; rfl
  have L1 := looks_findIn (M := model prog w) X FK.ga
  have L2' := looks_findIn (M := model prog w) X FK.gt
  repeat (any_goals (first | assumption | (with_reducible refine wpAny_loadPart_at hx ?_; rw [hc]) | with_reducible refine L1.at ?_ | with_reducible refine L2'.at ?_ | wp_step))
  refine codeAny_call_builtin (by decide +kernel) F.entry_bexc_ga (ADK FK X hx hc (AJo FK X hx hc ?_))
  repeat (any_goals (first | assumption | wp_step))
theorem AIP {s : Shared} {Q : Option Value → Shared → Prop} (FK : Lj K C) (X : K.In s.heap) (hx : s.heap.get? a = some o) (hc : o.cls = .ref C) (hq : Q (some (.ref C)) { s with toks := s.toks + 1 }) :
    wpAny (model prog w) A (getAttr? (.ref a) "__class__") Q E s := by
  obtain ⟨h, g, d, t, os⟩ := s
  unfold getAttr? getAttrBy?
  repeat (any_goals (first | assumption | with_reducible apply z7 FK X hx hc | wp_step))
end
end L2
namespace L2
open PySem PySem.Spec PyProof.Rows PySem.W
section
variable {prog : Program} {w : World} {A : Around} {E : Value → Shared → Prop} {K : Frag} {a C D : Addr} {o : Obj} {s : Shared}
theorem AFz {Q : Bool → Shared → Prop} (X : K.In s.heap) (ho : s.heap.get? a = some o) (hc : o.cls = .ref C) (hD : excIn K D Hr "ValueError.__new__" = true) (hm : mroIn K C (.ref D) = some true) (hq : Q true s) :
    wpAny (model prog w) A (excMatches (.ref a) (.ref D)) Q E s := by
  obtain ⟨h, g, d, t, os⟩ := s
  obtain ⟨bm, N, nm, qn, bs, hdct, sn, sub, ab, col, dd, k0, k1, k2, k3, k5, mN, hDo, hN, hni, T⟩ := rP X hD
  have hB : bm.contains (.type "BaseException") = true := T.hasType PySem.F.excBase_ValueError.hasBase
  have hcB : (Value.ref D :: bm).contains (.type "BaseException") = true := by rw [List.contains_cons, hB, Bool.or_true]
  have L := looks_mroIn (M := model prog w) X hm
  have f := tc_notTuple
  unfold excMatches
  repeat (first | (with_reducible refine wpAny_loadPart_at ho ?_; rw [hc]) | with_reducible refine wpAny_loadPart_at hDo ?_ | (with_reducible refine wpAny_isSubtype_exc hDo ?_; rw [hcB]) | with_reducible refine L.at ?_ | wp_step)
  exact hq
theorem dN (FK : Lj K C) (hcl : (clsIn K C).isSome = true) : KitX K (.ref a) (.ref C) (fun h => ∃ o, h.get? a = some o ∧ o.cls = .ref C) where
  ty := fun _ _ _ ⟨o, hx, hc⟩ => hc ▸ (Looks.ld hx).andThen .now
  it := fun _ _ X _ => by
    unfold clsIn at hcl
    split at hcl
    · rename_i c' d' cd' sl' ho
      intro A' Q' E' s' k q
      unfold isType loadHead
      exact wpAny_bind (wpAny_loadPart (k _ _ (X _ _ ho)) (wpAny_pure q))
    · cases hcl
  ne := fun h tp dd its n sl X htp => by
    refine Bool.eq_false_iff.mpr fun q => ?_
    have e : C = tp := Value.ref.inj (beq_iff_eq.mp q)
    subst e
    unfold clsIn at hcl
    split at hcl
    · rename_i c' d' cd' sl' ho
      have z := (X _ _ ho).symm.trans htp
      cases z
    · cases hcl
  ca := fun X ⟨o, hx, hc⟩ k => AIP FK X hx hc k
end
end L2
namespace L2
open PySem PySem.Spec PyProof.Rows PySem.W
abbrev Cx.Nu (X : Cx) (a : Addr) (E : Value → Shared → Prop) : Cx := { X with A := X.A.mark (some (.ref a)), calm := false, xe := E }
section
variable {X : Cx} {pins : List (Addr × Obj)} {σ : St} {H : Hp} {s : Shared} {a : Addr} {E : Value → Shared → Prop}
theorem Inv.Jw (I : Inv X pins σ H s) (a : Addr) (E : Value → Shared → Prop) : Inv (X.Nu a E) pins σ H s :=
  ⟨⟨I.ok.mod, I.ok.kind, I.ok.glob, I.ok.blt, I.ok.above, I.ok.inj, I.ok.has, I.ok.cab, (fun h => by cases h), I.ok.frames, I.ok.stk, I.ok.exf, I.ok.bs, I.ok.bsz, I.ok.noex, I.ok.exfs, I.ok.Hn, I.ok.frf⟩, I.os, I.bare, I.base, I.loc, I.cell, I.free, I.freeC, I.pin, I.hok, I.len⟩
theorem Inv.yV (ok : X.Ok) (I : Inv (X.Nu a E) pins σ H s) : Inv X pins σ H s := ⟨ok, I.os, I.bare, I.base, I.loc, I.cell, I.free, I.freeC, I.pin, I.hok, I.len⟩
theorem Inv.ACG (I : Inv X pins σ H s) {o : HO} (ha : H a = none) (h0 : X.s₀.heap.get? a = none) (hL : a ≠ X.env.locals) (hcl : ∀ x c, X.env.cells.lookup x = some c → c ≠ a) (hp : ∀ p ∈ X.pn ++ pins, p.1 ≠ a) (new : Es X.prog X.w (upd H a o) s.heap a o) : Inv X pins σ (upd H a o) s := by
  have ne : ∀ b u, H b = some u → b ≠ a := fun b u e z => by rw [z, ha] at e; cases e
  refine ⟨I.ok, I.os, I.bare, ⟨I.base.keep, I.base.slot, fun b o e n hx => ?_, I.base.there, fun b xs e => ?_, fun b o u e => ?_, fun b ps e => ?_⟩, I.loc, I.cell, ?_, fun x c e => ?_, fun p hpp => ?_, fun b u e => ?_, I.len⟩
  · rw [Bs (fun z : b = a => by rw [z, h0] at e; cases e)]
    exact I.base.free b o e n hx
  · have q := I.base.tups b xs e
    rw [Bs (ne b _ q)]
    exact q
  · have q := I.base.frzs b o u e
    rw [Bs (ne b _ q)]
    exact q
  · obtain ⟨more, q⟩ := I.base.tbls b ps e
    exact ⟨more, by rw [Bs (ne b _ q)]; exact q⟩
  · rw [Bs (Ne.symm hL)]
    exact I.free
  · rw [Bs (hcl x c e)]
    exact I.freeC x c e
  · obtain ⟨p1, p2, p3⟩ := I.pin p hpp
    exact ⟨p1, by rw [Bs (hp p hpp)]; exact p2, p3⟩
  · by_cases hb : b = a
    · subst hb
      rw [Dz] at e
      cases e
      exact new
    · rw [Bs hb] at e
      refine (I.hok b u e).KZ (fun _ _ _ q => q) (fun c q => ?_) fun c xs q => ?_
      · rw [Bs (ne c _ q)]; exact q
      · rw [Bs (ne c _ q)]; exact q
theorem vM {M : Model} {A : Around} {i : Nat} {x : Str} {pos : Pos} {Q : Unit → Shared → Prop} (I : Inv X pins σ H s) (hN : X.N.Nodup) (hi : X.N[i]? = some x) (hx : X.env.kindOf x = some .local) (h : ∀ s', Inv X pins (σ.set i none) H s' → Q () s') : wpAny M A (do bindName X.env x .none; unbindBehindTheSuite X.env x pos) Q E s := by
  obtain ⟨m, hn, hl⟩ := id I.loc
  have hcls : (X.env.scope.kind == .class || (X.env.scope.kind == .module && X.env.locals != X.env.globals)) = false := by rw [I.ok.kind]; rfl
  have J9 := I.J9
  refine wpAny_nameGoes_keeps hx hn hcls fun h' v hn' hs => ?_
  obtain ⟨oL, _, _, hoL, _⟩ := id hn
  have tracked : Ea X.prog X.w H h' := fun b ob e => by
    refine (I.hok b ob e).KZ (fun c w' hc q => (hs.2 c ?_).trans q) (fun _ q => q) fun _ _ q => q
    rintro rfl
    rcases hc with rfl | hc
    · rw [I.free] at e; cases e
    · rw [I.free] at hc; cases hc
  refine h _ ⟨I.ok, I.os, I.bare, ⟨fun b o e n hb hx => ?_, fun b o e n hb hx => ?_, I.base.free, fun b o e hx => ?_, I.base.tups, I.base.frzs, I.base.tbls⟩, ⟨_, hn', fun j y v' e1 e2 e3 => ?_⟩, fun y c e => ?_, I.free, I.freeC, fun p hp => ?_, tracked, by simpa using I.len⟩
  · exact (hs.2 b (Nat.ne_of_lt (Nat.lt_of_lt_of_le (Heap.lt_size e) I.ok.above))).trans (I.base.keep b o e n hb hx)
  · obtain ⟨sl, e1⟩ := I.base.slot b o e n hb hx
    exact ⟨sl, (hs.2 b (Nat.ne_of_lt (Nat.lt_of_lt_of_le (Heap.lt_size e) I.ok.above))).trans e1⟩
  · obtain ⟨o', e1⟩ := I.base.there b o e hx
    exact ⟨o', (hs.2 b (Nat.ne_of_lt (Nat.lt_of_lt_of_le (Heap.lt_size e) I.ok.above))).trans e1⟩
  · by_cases hj : j = i
    · subst hj
      rw [List.getElem?_set] at e2
      split at e2
      · split at e2 <;> cases e2
      · rename_i hne; exact absurd rfl hne
    · rw [List.getElem?_set_ne (Ne.symm hj)] at e2
      obtain ⟨u', r', q⟩ := hl j y v' e1 e2 e3
      refine ⟨u', r', ?_⟩
      rcases q with ⟨k, e⟩ | ⟨k, c, e, z⟩
      · refine .inl ⟨k, ?_⟩
        have : y ≠ x := fun e => hj (gB hN e1 (e ▸ hi))
        simp [this, e]
      · exact .inr ⟨k, c, e, z.sameBut hs (J9 y c e)⟩
  · obtain ⟨w', z⟩ := I.cell y c e
    exact ⟨w', z.sameBut hs (J9 y c e)⟩
  · obtain ⟨e, n, ne, nf, d⟩ := I.pin p hp
    exact ⟨(hs.2 p.1 ne).trans e, n, ne, nf, d⟩
end
def JD (a C : Addr) : Heap → Prop := fun h => ∃ o, h.get? a = some o ∧ o.cls = .ref C
def XS (X : Cx) (pins : List (Addr × Obj)) (σ : St) (a C : Addr) (H' : Hp) (s' : Shared) : Prop :=
  ∃ (t : Addr) (B : Heap), Heap.FlyingW B X.stack a (.ref C) (.ref t) s'.heap ∧ (∀ h', B.StaysIn h' → s'.heap.UpToSlots h' → Inv X pins σ H' { s' with heap := h' }) ∧ H' a = none ∧ X.s₀.heap.get? a = none ∧ a ≠ X.env.locals ∧ (∀ x c, X.env.cells.lookup x = some c → c ≠ a) ∧ ∀ p ∈ X.pn ++ pins, p.1 ≠ a
section
variable {X : Cx} {pins : List (Addr × Obj)} {σ : St} {H : Hp} {s s' : Shared} {e : Value}
theorem Inv.flew (I : Inv X pins σ H s) {E : XK} (h : Fe X.prog X.w X.stack H s E e s') (hex : X.ex = []) : ∃ (a : Addr) (cls : Value) (H' : Hp), e = .ref a ∧ E cls none H' ∧ ∀ C, cls = .ref C → XS X pins σ a C H' s' := by
  obtain ⟨a, t, cls, B, H', rfl, hos, hg, hfl, hst, _, hn, hH, hE⟩ := h
  refine ⟨a, cls, H', rfl, hE, fun C hC => ?_⟩
  subst hC
  refine ⟨t, B, hfl, fun h' hB hu => ?_, hH, ?_, ?_, fun x c hc z => ?_, fun p hp z => ?_⟩
  · obtain ⟨un, hok⟩ := hst h' hB hu
    exact I.nJ (s' := { s' with heap := h' }) (ch := []) hos un hok hg (fun b z => absurd z (by simp))
  · cases q : X.s₀.heap.get? a with
    | none => rfl
    | some o =>
      obtain ⟨o', q1⟩ := I.base.there a o q (by rw [hex]; simp)
      rw [hn] at q1
      cases q1
  · intro z
    obtain ⟨m, ⟨o, _, _, ho, _⟩, _⟩ := I.loc
    rw [← z, hn] at ho
    cases ho
  · obtain ⟨v, o, ho, _⟩ := I.cell x c hc
    rw [z, hn] at ho
    cases ho
  · have := (I.pin p hp).1
    rw [z, hn] at this
    cases this
end
end L2
namespace L2
open PySem PySem.Spec PyProof.Rows PySem.W
section
variable {X : Cx} {pins : List (Addr × Obj)} {σ : St} {H' : Hp} {s' : Shared} {a C Dc : Addr} {i : Nat} {x n : Str} {np pos : Pos} {b₀ : Stmt} {Jw : List Stmt} {tb : TS} {D : Ends}
def UL (i : Nat) (D : Ends) : Ends := { nx := fun σ H => D.nx (σ.set i none) H, rt := D.rt }
theorem ABx (Qo : X.stack = X.env :: X.outer) (hfm : X.env.frame = some X.env.locals) (hN : X.N.Nodup) (hi : X.N[i]? = some n) (hl : X.env.kindOf n = some .local) (hg : Gl X x) (hm : X.mg x = some (.ref Dc)) (hD : excIn X.K Dc Hr "ValueError.__new__" = true) (hsub : mroIn X.K C (.ref Dc) = some true) (S : XS X pins σ a C H' s') (hb : Ez (X.Nu a fun _ _ => False) (b₀ :: Jw) tb) (ht : tb (UL i D) (σ.set i (some (.ref a))) (upd H' a (.ext (JD a C)))) (hd : (x == ("__debug__" : Str)) = false := by decide) (hf : X.fn n = true ∨ X.env.scope.names.lookup n = some .local := by first | exact .inl rfl | exact .inr rfl | assumption) :
    wpAny (model X.prog X.w) X.A (noteFrame (.ref a) X.env) (fun _ s₂ => wpAny (model X.prog X.w) X.A (setFlight (.ref a) none) (fun _ s₃ =>
      wpAny (model X.prog X.w) X.A (handleBy (.ref a) X.env [.ExceptHandler (some (.Name x np)) (some n) (b₀ :: Jw) pos]) (SP X pins D) X.xe s₃) X.xe s₂) X.xe s' := by
  obtain ⟨t, B, hfl, cI, hH, h0, hL, hcl, hpn⟩ := S
  have I0 := cI s'.heap hfl.1 (Heap.UpToSlots.refl _)
  have hfr : X.A.frames = some (X.env :: X.outer) := by rw [← Qo]; exact I0.ok.frames
  rw [Qo] at hfl
  refine wpAny_looks_onW (L := X.env.locals) hfr hfm hfl fun h₄ hheld₄ hsm₄ => ?_
  refine wpAny_landsW hheld₄ fun h₅ fM tK => ?_
  have I5 := cI h₅ fM.1 (hsm₄.trans tK)
  obtain ⟨ob, hob, hobc⟩ := fM.there
  refine wpAny_handleBy_cons (codeAny_handlers_test ?_) (by intro q; cases q)
  refine RG (X := X.Nu a fun _ _ => False) (I5.Jw a fun _ _ => False) hg hm ?_ hd
  refine AFz (K := X.K) I5.DP hob hobc hD hsub (codeAny_handlers_suite_as ?_)
  refine lands_againW fM fun h₆ oR ABI => ?_
  have I6 := cI h₆ oR.1 ((hsm₄.trans tK).trans ABI)
  obtain ⟨oe, hoe, hoec⟩ := oR.there
  have I7 := I6.ACG (o := .ext (JD a C)) hH h0 hL hcl hpn ⟨⟨oe, hoe, hoec⟩, ⟨oe, hoe⟩, fun h1 h2 ⟨o, q1, q2⟩ k => ⟨o, k o q1, q2⟩⟩
  refine bB (X := X.Nu a fun _ _ => False) (v := .ref a) (I7.Jw a _) hN hi (.inl hl) rfl (fun s8 I8 => ?_) hf
  refine wpAny_mono (hb pins s8 _ _ (UL i D) I8 ht) (fun f s9 h9 => ?_) fun _ _ z => z.elim
  cases f with
  | next =>
    obtain ⟨σ1, H1, I9, q⟩ := h9
    exact vM (I9.yV I0.ok) hN hi hl fun s10 I10 => ⟨_, H1, I10, q⟩
  | ret u =>
    obtain ⟨v, σ1, H1, I9, rv, q⟩ := h9
    exact vM (I9.yV I0.ok) hN hi hl fun s10 I10 => ⟨v, _, H1, I10, rv, q⟩
  | brk =>
    obtain ⟨_, _, _, q⟩ := h9
    exact q.elim
  | cont =>
    obtain ⟨_, _, _, q⟩ := h9
    exact q.elim
end
end L2
namespace L2
open PySem PySem.Spec PyProof.Rows PySem.W
theorem oG : ∀ (ds : List Addr) (its : List Value), Vals (ds.map V.ref) its → its = ds.map Value.ref
  | [], _, r => by cases r; rfl
  | d :: ds, _, r => by
    cases r with
    | cons p t =>
      cases p
      exact congrArg (Value.ref d :: ·) (oG ds _ t)
section
variable {X : Cx} {C : Addr}
theorem Wm (FK : Lj X.K C) (hcl : (clsIn X.K C).isSome = true) : Hj X (.builtin "isinstance") (fun xs H Q => ∃ (a : Addr) (c : V) (b : Bool), xs = [.ref a, c] ∧ H a = some (.ext (JD a C)) ∧ ((∃ D, c = .ref D ∧ kitOne X.K (.ref C) (.ref D) = some b) ∨ (∃ T, c = .ty T ∧ kitOne X.K (.ref C) (.type T) = some b) ∨ (∃ (tp : Addr) (ds : List Addr), c = .ref tp ∧ H tp = some (.tup (ds.map V.ref)) ∧ kitAny X.K (.ref C) (ds.map Value.ref) = some b)) ∧ Q (.bl b) H) := by
  intro pins s σ H xs us Q I r h
  obtain ⟨a, c, b, rfl, ha, hc, q⟩ := h
  obtain ⟨u, u2, rfl, rx, rx2⟩ := vals2 r
  cases rx
  have hp : JD a C s.heap := (show Es X.prog X.w H s.heap a (.ext (JD a C)) from I.hok a _ ha).1
  have fin : ∀ tk, EP X pins σ Q (.bool b) { s with toks := tk } := fun tk => ⟨.bl b, H, I.kept (t' := tk) (fun _ _ e => e), rfl, q⟩
  rcases hc with ⟨D, rfl, e⟩ | ⟨T, rfl, e⟩ | ⟨tp, ds, rfl, ht, e⟩
  · cases rx2
    exact kia_one (dN FK hcl) I.DP hp e (by simp) fin
  · cases rx2
    exact kia_one (dN FK hcl) I.DP hp e (by simp) fin
  · cases rx2
    obtain ⟨its, r2, ⟨o, ho, hoc, n, hd⟩, _⟩ := I.tuple (Dt.of ht)
    have hits := oG ds its r2
    subst hits
    obtain ⟨oc, od, odt, osl⟩ := o
    dsimp only at hoc hd
    subst hoc hd
    exact kia_tup (dN FK hcl) I.DP hp ho e (by simp) fin
end
end L2
namespace L2
open PySem PySem.Spec PyProof.Rows PySem.W
abbrev En := Aq → Option Str
def vZ (K : Frag) (R : Str → Hp → Prop) (ts : TS) (G : En) : Prop := ∀ (H0 : Hp) (O0 : List Addr) (Gh : Hp) (σ : St) (H : Hp) (ρ : Aq) (C : Str) (E : Ends), Cd O0 H0 → CP K H0 O0 Gh σ H ρ → G ρ = some C →
  (∀ (σ' : St) (H' : Hp) (ρ' : Aq), CP K H0 O0 Gh σ' H' ρ' → R C H') → ts E σ H
structure JX (X : Cx) (K : Frag) (R : Str → Hp → Prop) (st : Stmt) (ts : TS) (F : Am) (G : En) : Prop where
  pe : PS X st ts
  pu : KQ K ts F
  px : vZ K R ts G
structure K6 (X : Cx) (K : Frag) (R : Str → Hp → Prop) (st : List Stmt) (ts : TS) (F : Am) (G : En) : Prop where
  pe : Ez X st ts
  pu : KQ K ts F
  px : vZ K R ts G
def G4 : En := fun _ => none
def Gr (F : Am) (G G' : En) : En := fun ρ => match G ρ with
  | some C => some C
  | none => (F ρ).bind fun o => match o with
    | .nx ρ' => G' ρ'
    | _ => none
def HY (c : PB) (G G' : En) : En := fun ρ => (c (full ρ)).bind fun b => if b = true then G ρ else G' ρ
def Ve (C : Str) : En := fun _ => some C
section
variable {X : Cx} {K : Frag} {R : Str → Hp → Prop} {st : Stmt} {rest : List Stmt} {t u : TS} {F F' : Am} {G G' : En} {pos : Pos}
theorem PS.Ds {st : Stmt} {t : TS} (h : PS X.Ds st t) : PS X st t := fun pins s σ H D I hw =>
  wpAny_mono (h pins s σ H D (I.Hl _) hw) (fun _ _ q => q.Ie) fun _ _ z => False.elim z
theorem Rp (h : JS X.Ds K st t F) : JX X K R st t F G4 := ⟨PS.Ds h.pe, h.pu, by
  intro H0 O0 Gh σ H ρ C E ok s hf q
  cases hf⟩
theorem m5 {st : List Stmt} (h : Gu X.Ds K st t F) : K6 X K R st t F G4 := ⟨Ez.Ds h.pe, h.pu, by
  intro H0 O0 Gh σ H ρ C E ok s hf q
  cases hf⟩
theorem Xd (h : JX X K R st t F G) : K6 X K R [st] t F G := ⟨eN h.pe, h.pu, h.px⟩
theorem K8 (h1 : JX X K R st t F G) (h2 : K6 X K R rest u F' G') : K6 X K R (st :: rest) (Yw t u) (Al F F') (Gr F G G') := ⟨aV h1.pe h2.pe, (by
  intro H0 O0 Gh σ H ρ o E ok s hf q
  obtain ⟨o1, e1, hf⟩ := Ar hf
  refine h1.pu H0 O0 Gh σ H ρ o1 _ ok s e1 ?_
  cases o1 with
  | nx ρ' => exact fun σ' H' s' => h2.pu H0 O0 Gh σ' H' ρ' o E ok s' hf q
  | rt d => cases hf; exact q
  | rl d => cases hf; exact q
  | rn d => cases hf; exact q
  | rp d e => cases hf; exact q
  | ro d e => cases hf; exact q
  | bk d => cases hf; exact q
  | ct d => cases hf; exact q), by
  intro H0 O0 Gh σ H ρ C E ok s hf q
  unfold Gr at hf
  cases hG : G ρ with
  | some C' =>
    rw [hG] at hf
    cases hf
    exact h1.px H0 O0 Gh σ H ρ C _ ok s hG q
  | none =>
    rw [hG] at hf
    obtain ⟨o1, e1, hf⟩ := Ar hf
    cases o1 with
    | nx ρ' => exact h1.pu H0 O0 Gh σ H ρ (.nx ρ') _ ok s e1 fun σ' H' s' => h2.px H0 O0 Gh σ' H' ρ' C E ok s' hf q
    | rt d => cases hf
    | rl d => cases hf
    | rn d => cases hf
    | rp d e => cases hf
    | ro d e => cases hf
    | bk d => cases hf
    | ct d => cases hf⟩
theorem yL {c : Expr} {a b : List Stmt} {tc : TT} {pc : PB} (hc : JT X.Ds K c tc pc) (ha : K6 X K R a t F G) (hb : K6 X K R b u F' G') : JX X K R (.If c a b pos) (iD tc t u) (Bq pc F F') (HY pc G G') := ⟨yX (PT.Ds hc.pe) ha.pe hb.pe, (by
  intro H0 O0 Gh σ H ρ o E ok s hf q
  obtain ⟨k, e1, hf⟩ := Ar hf
  have ⟨o1, e2⟩ := s.HR ok
  refine hc.pu O0 σ H (full ρ) k _ o1 e2 e1 fun H' s' => ?_
  cases k with
  | true =>
    rw [if_pos rfl] at hf ⊢
    exact ha.pu H0 O0 Gh σ H' ρ o E ok (s.grow s') hf q
  | false =>
    rw [if_neg Bool.false_ne_true] at hf ⊢
    exact hb.pu H0 O0 Gh σ H' ρ o E ok (s.grow s') hf q), by
  intro H0 O0 Gh σ H ρ C E ok s hf q
  obtain ⟨k, e1, hf⟩ := Ar hf
  have ⟨o1, e2⟩ := s.HR ok
  refine hc.pu O0 σ H (full ρ) k _ o1 e2 e1 fun H' s' => ?_
  cases k with
  | true =>
    rw [if_pos rfl] at hf ⊢
    exact ha.px H0 O0 Gh σ H' ρ C E ok (s.grow s') hf q
  | false =>
    rw [if_neg Bool.false_ne_true] at hf ⊢
    exact hb.px H0 O0 Gh σ H' ρ C E ok (s.grow s') hf q⟩
end
structure Gd (P : Program) (w : World) (K : Frag) (mg : Str → Option Value) (base : Heap) (k : Nat) (x : Str) (ps : List Str) (sp : Sp) : Prop where
  ex : ∃ (f : Addr) (fd : FuncData), Ei P w K mg base (Fe P w) k f fd ps sp ∧ mg x = some (.ref f) ∧ keepIn K (.ref f) = true ∧ Binds K fd ps [] ∧ ∃ o, K.lookup f = some o ∧ o.data = .func fd
def Dy (K : Frag) (n : Nat) (mg : Str → Option Value) (g : List D → Option Str) : Sp := fun vs H _ E => vs.length = n ∧ ∃ (O : List Addr) (ds : List D) (x : Str), Cd O H ∧ BP K (Ah O H) vs ds ∧ g ds = some x ∧ ∀ H', Ao H H' → ∀ C, mg x = some (.ref C) → E (.ref C) none H'
def Im (n m : Nat) (G : En) : List D → Option Str := fun ds => if ds.length = n then G (HF m ds) else none
section
variable {P : Program} {w : World} {K : Frag} {mg : Str → Option Value} {base : Heap}
theorem Gd.mono {j k : Nat} {x : Str} {ps : List Str} {sp : Sp} (C : Gd P w K mg base j x ps sp) (h : j ≤ k) : Gd P w K mg base k x ps sp := by
  obtain ⟨f, fd, F, r⟩ := C.ex
  exact ⟨f, fd, F.mono h, r⟩
theorem xO {N : List Str} {qual : Str} {scope : Scope} {f : Addr} {cd : Value} {A : Around} {outer : List Env} {s : Shared} {H : Hp} {E : XK} {x : Str} {C : Addr} {txt : Str} {j : Nat} {tp np cpos pos : Pos} (hh : (A.deeper (envOfC qual scope s.heap.objs.size f cd)).handled = none) (hg : Gl (Dh (Fe P w) P w K mg base N qual scope f cd A outer s H E) x) (hm : mg x = some (.ref C)) (hq : excIn K C Hr "ValueError.__new__" = true) (hd : (x == ("__debug__" : Str)) = false := by decide) :
    JX (Dh (Fe P w) P w K mg base N qual scope f cd A outer s H E) K (fun y H' => ∀ C, mg y = some (.ref C) → E (.ref C) none H') (.Raise (some (.Call (.Name x np) [.Constant (.str txt) j tp] [] cpos)) none pos)
      (fun _ σ H => GQ (tC (.str txt)) Gy σ H fun vs H1 => vs.length ≤ sizeLine ∧ E (.ref C) none H1) FN (Ve x) := by
  refine ⟨AIf (X := Dh (Fe P w) P w K mg base N qual scope f cd A outer s H E) (XR := fun H1 => E (.ref C) none H1) hh hg hm hq (Ek AIb Iv) (fun pins σ H1 s1 h' e vs I hx xr => AFw pins σ H1 s1 h' e vs I hx xr) (hd := hd), ?_, ?_⟩
  · intro H0 O0 G σ H ρ o E ok s hf q
    cases hf
  · intro H0 O0 Gh σ H ρ C' E' ok s hf q
    cases hf
    exact ⟨by show 1 ≤ sizeLine; decide, q σ H ρ s C hm⟩
theorem Def.raises {x : Str} {st : Stmt} {N ps : List Str} {k n m : Nat} {G : En} {g : List D → Option Str} (hfn : g = Im n m G) (D : Def K mg x st ps) (S : Bk N ps (BL st)) (hn : ps.length = n) (hm : N.length = m) (hb : ∀ (f : Addr) (cdv : Value) (A : Around) (outer : List Env) (s : Shared) (H : Hp) (E : XK), CV k (A.deeper (envOfC x (BL st) s.heap.objs.size f cdv)) →
      ∃ t F, K6 (Dh (Fe P w) P w K mg base N x (BL st) f cdv A outer s H E) K (fun y H' => ∀ C, mg y = some (.ref C) → E (.ref C) none H') (Df st) t F G) : Gd P w K mg base (k + 1) x ps (Dy K n mg g) := by
  subst hfn hm
  obtain ⟨f, fd, Fu, m, b, _⟩ := D.ex
  obtain ⟨oc, od, kV, doc, pm, an, cdv, ct, osl, rfl, lk, hcd⟩ := Fu.ex
  refine ⟨f, _, Wb lk hcd S (fun vs H Q E h => by rw [h.1, hn]) fun A outer s H vs Q E hr hsp => ?_, m, Fu.kp, b, _, lk, rfl⟩
  obtain ⟨t, F, j⟩ := hb f cdv A outer s H E hr
  refine ⟨t, j.pe, ?_⟩
  obtain ⟨hl, O, ds, C, ok, r, hf, q⟩ := hsp
  have hl2 : ds.length = n := by rw [← r.length]; exact hl
  unfold Im at hf
  rw [if_pos hl2] at hf
  exact j.px H O (Ah O H) _ H _ C _ ok (Nv r N) hf fun σ' H' ρ' s' => q H' s'.same
end
end L2
namespace L2
open PySem PySem.Spec PyProof.Rows PySem.W
def XE (X : Cx) (pins : List (Addr × Obj)) (σ : St) (R : Addr → Hp → Prop) : Value → Shared → Prop := fun e s' => ∃ (a C : Addr) (H' : Hp), e = .ref a ∧ XS X pins σ a C H' s' ∧ R C H'
def yW (R : Addr → Hp → Prop) : XK := fun cls _ H' => ∃ C, cls = .ref C ∧ R C H'
end L2
namespace L2
open PySem PySem.Spec PyProof.Rows PySem.W
def ADh (K : Frag) (C : Addr) : List V → Hp → VK → Prop := fun xs H Q => ∃ (a : Addr) (c : V) (b : Bool), xs = [.ref a, c] ∧ H a = some (.ext (JD a C)) ∧
    ((∃ D, c = .ref D ∧ kitOne K (.ref C) (.ref D) = some b) ∨ (∃ T, c = .ty T ∧ kitOne K (.ref C) (.type T) = some b) ∨ (∃ (tp : Addr) (ds : List Addr), c = .ref tp ∧ H tp = some (.tup (ds.map V.ref)) ∧ kitAny K (.ref C) (ds.map Value.ref) = some b)) ∧ Q (.bl b) H
def Vj (K : Frag) (C : Addr) (j : Nat) (c : TE) : TE := Lg (ADh K C) (GQ (Eh j) (GQ c Gy))
def jV : List Addr → TA
  | [] => Gy
  | d :: ds => GQ (tC (.ref d)) (jV ds)
theorem wB : ∀ (ds : List Addr) {σ : St} {H : Hp} {Q : List V → Hp → Prop}, Q (ds.map V.ref) H → jV ds σ H Q
  | [], _, _, _, h => h
  | d :: ds, _, _, _, h => wB ds h
def Td (K : Frag) (ik j : Nat) (D1 D2 : Addr) (ds : List Addr) (C : Addr) : TS :=
  Yw (Gg (eO (GQ (Vj K C j (tC (.ref D1))) (GQ (Vj K C j (tC (.ref D2))) (GQ (Vj K C j (aZ (jV ds))) Gy)))) (El ik))
    (Qf (Ss K "list" Xc (Eh ik) (GQ (Vj K C j (tC (.ty "ValueError"))) Gy)))
theorem AHX {K : Frag} {ik j : Nat} {D1 D2 : Addr} {ds : List Addr} {C : Addr} {r1 r2 r3 : Bool} (k1 : kitOne K (.ref C) (.ref D1) = some r1) (k2 : kitOne K (.ref C) (.ref D2) = some r2) (k3 : kitAny K (.ref C) (ds.map Value.ref) = some r3) (k4 : kitOne K (.ref C) (.type "ValueError") = some true) (hds : ds.length ≤ 1000) (hne : ik ≠ j) {σ : St} {H : Hp} {a : Addr} {D : Ends} (hj : σ[j]? = some (some (.ref a))) (hik : ik < σ.length) (ha : H a = some (.ext (JD a C))) (h : ∀ (p : Addr) (H' : Hp), Ao H H' → H p = none → H' p = some (.lst [.bl r1, .bl r2, .bl r3, .bl true]) → D.nx (σ.set ik (some (.ref p))) H') : Td K ik j D1 D2 ds C D σ H := by
  refine ⟨_, hj, a, _, r1, rfl, ha, .inl ⟨D1, rfl, k1⟩, ?_⟩
  refine ⟨_, hj, a, _, r2, rfl, ha, .inl ⟨D2, rfl, k2⟩, ?_⟩
  refine ⟨_, hj, wB ds ⟨by rw [List.length_map]; exact Nat.le_trans hds (by decide), fun tp htp => ?_⟩⟩
  have na : a ≠ tp := fun z => by rw [z, htp] at ha; cases ha
  have ha1 : (upd H tp (.tup (ds.map V.ref))) a = some (.ext (JD a C)) := by rw [Bs na]; exact ha
  refine ⟨a, _, r3, rfl, ha1, .inr (.inr ⟨tp, ds, rfl, Dz, k3⟩), ?_⟩
  refine ⟨by show 3 ≤ sizeLine; decide, fun p hp => ?_⟩
  have s1 : Ao H (upd H tp (.tup (ds.map V.ref))) := Ao.new htp
  have s2 : Ao (upd H tp (.tup (ds.map V.ref))) (upd (upd H tp (.tup (ds.map V.ref))) p (.lst [.bl r1, .bl r2, .bl r3])) := Ao.new hp
  have hpn : H p = none := s1.free hp
  have npa : a ≠ p := fun z => by rw [z, hp] at ha1; cases ha1
  refine ⟨_, List.getElem?_set_self hik, .inl ⟨rfl, _, Bl.of Dz⟩, _, by rw [List.getElem?_set_ne hne]; exact hj, a, _, true, rfl, (by rw [Bs npa]; exact ha1), .inr (.inl ⟨_, rfl, k4⟩), p, _, _, rfl, rfl, Dz, by show 3 < sizeLine; decide, ?_⟩
  refine h p _ (fun b o e => ?_) hpn Dz
  have nb : b ≠ p := fun z => by rw [z, hpn] at e; cases e
  rw [Bs nb]
  exact s2 b o (s1 b o e)
structure KC (K : Frag) (mg : Str → Option Value) (C1 C2 : Addr) (ds : List Addr) : Prop where
  m1 : mg "Full" = some (.ref C1)
  m2 : mg "NoKey" = some (.ref C2)
  a1 : kitOne K (.ref C1) (.ref C1) = some true
  a2 : kitOne K (.ref C1) (.ref C2) = some false
  a3 : kitAny K (.ref C1) (ds.map Value.ref) = some false
  a4 : kitOne K (.ref C1) (.type "ValueError") = some true
  b1 : kitOne K (.ref C2) (.ref C1) = some false
  b2 : kitOne K (.ref C2) (.ref C2) = some true
  b3 : kitAny K (.ref C2) (ds.map Value.ref) = some false
  b4 : kitOne K (.ref C2) (.type "ValueError") = some true
  dl : ds.length ≤ 1000
end L2
namespace L2
open PySem PySem.Spec PyProof.Rows PySem.W
section
variable {P : Program} {w : World} {K : Frag} {mg : Str → Option Value} {base : Heap} {N : List Str} {qual : Str} {scope : Scope} {f : Addr} {cd : Value} {A : Around} {outer : List Env} {s : Shared} {H : Hp} {E : XK}
theorem AG8 {E' : XK} (hE : ∀ cls H', E' cls none H' → E cls none H') : Passes (Fe P w) (Dh (Fe P w) P w K mg base N qual scope f cd A outer s H E) E' := by
  intro pins σ H1 s1 e s2 I hx
  obtain ⟨a, t, cls, B, H', rfl, hos, hg, hfl, hst, hB1, hn, hH, he⟩ := hx
  show wpAny (model P w) (A.deeper (envOfC qual scope s.heap.objs.size f cd)) (leaving (envOfC qual scope s.heap.objs.size f cd) (.ref a)) _ _ _
  have un : Un (DG outer) [] H H1 s.heap s1.heap := I.base
  have fr : ∀ b, b ∈ DG (envOfC qual scope s.heap.objs.size f cd :: outer) → b = s.heap.objs.size ∨ b ∈ DG outer := fun b hb => by
    obtain ⟨env, he, hf⟩ := List.mem_filterMap.mp hb
    rcases List.mem_cons.mp he with rfl | he
    · exact .inl (Option.some.inj hf).symm
    · exact .inr (List.mem_filterMap.mpr ⟨env, he, hf⟩)
  have fr' : ∀ b, b ∈ DG outer → b ∈ DG (envOfC qual scope s.heap.objs.size f cd :: outer) := fun b hb => by
    obtain ⟨env, he, hf⟩ := List.mem_filterMap.mp hb
    exact List.mem_filterMap.mpr ⟨env, .tail _ he, hf⟩
  have old : ∀ b o, s.heap.get? b = some o → b ∉ DG outer → b ∉ DG (envOfC qual scope s.heap.objs.size f cd :: outer) := fun b o q n hb => by
    rcases fr b hb with z | z
    · subst z; exact absurd (Heap.lt_size q) (Nat.lt_irrefl _)
    · exact n z
  refine wpAny_leaves_onW (L := s.heap.objs.size) I.ok.frames rfl hfl fun h3 AJv hu3 => ?_
  refine ⟨a, t, cls, B, H', rfl, hos.trans I.os, hg, AJv, fun h4 hB4 hu4 => ?_, fun b o q n hn' => hB1 b o (un.keep b o q hn' n (by simp)) (old b o q n) (un.free b o q hn' (by simp)), ?_, hH, hE cls H' he⟩
  · obtain ⟨u2, hok⟩ := hst h4 hB4 (hu3.trans hu4)
    refine ⟨⟨fun b o q hn' hb _ => u2.keep b o (un.keep b o q hn' hb (by simp)) (un.free b o q hn' (by simp)) (old b o q hb) (by simp), fun b o q hn' hb _ => ?_, fun b o q hn' _ => ?_, fun b o q _ => ?_, fun b xs q => u2.tups b xs (un.tups b xs q), fun b o u q => u2.frzs b o u (un.frzs b o u q), fun b ps q => ?_⟩, hok⟩
    · obtain ⟨sl, q1⟩ := un.slot b o q hn' hb (by simp)
      obtain ⟨sl2, q2⟩ := u2.slot b _ q1 (un.free b o q hn' (by simp)) (fr' b hb) (by simp)
      exact ⟨sl2, q2⟩
    · obtain ⟨o', q1⟩ := un.there b o q (by simp)
      exact u2.free b o' q1 (un.free b o q hn' (by simp)) (by simp)
    · obtain ⟨o', q1⟩ := un.there b o q (by simp)
      exact u2.there b o' q1 (by simp)
    · obtain ⟨m1, q1⟩ := un.tbls b ps q
      obtain ⟨m2, q2⟩ := u2.tbls b _ q1
      exact ⟨m1 ++ m2, by rw [q2, Array.append_assoc]⟩
  · cases q : s.heap.get? a with
    | none => rfl
    | some o =>
      obtain ⟨o', q1⟩ := un.there a o q (by simp)
      rw [hn] at q1
      cases q1
end
def rH (sp spx : Sp) (E' : XK) (t : TA) : TE := fun σ H Q => t σ H fun vs H1 => sp vs H1 Q E0 ∨ spx vs H1 (fun _ _ => False) E'
section
variable {X : Cx} {k : Nat} {x : Str} {ps : List Str} {sp spx : Sp} {e : Expr} {es : List Expr} {t : TA} {p pos : Pos} {E' : XK}
theorem AHl (C : Callee X.prog X.w X.K X.mg X.base k x ps sp) (CX : Gd X.prog X.w X.K X.mg X.base k x ps spx) (hp : Passes (Fe X.prog X.w) X E') (hr : CV k X.A) (hg : Gl X x) (ha : PA X (e :: es) t) (hdb : (x == ("__debug__" : Str)) = false := by decide)
    (he : starEach (e :: es) X.env = (false, eval e X.env) :: starEach es X.env := by rfl) (hpl : (backTo pos (starEach es X.env)).any (·.1) = false := by rfl) : PE X (.Call (.Name x p) (e :: es) [] pos) (rH sp spx E' t) := by
  intro pins s σ H Q I h
  obtain ⟨f, fd, F, m, kp, b, _⟩ := C.ex
  obtain ⟨f', fd', F', m', kp', b', _⟩ := CX.ex
  have e1 : f = f' := by
    have := m.symm.trans m'
    cases this
    rfl
  subst e1
  refine wpAny_Call_Name_kw (RG I hg m ?_ hdb)
  refine PySem.W.callWith_K (h₀ := X.base) I.ok.mod.kin kp (Bg (ha pos pins s σ H _ I h) fun us s1 ⟨vs, H1, I1, r, q⟩ => ⟨I1.DP, ?_⟩) he hpl
  rcases q with q | q
  · exact Vb (dvs := []) (ds := []) (E := E0) F hr b .nil Nr I1 r (by rw [List.append_nil]; exact q)
  · have := Vb (dvs := []) (ds := []) (E := E') F' hr b' .nil hp I1 r (by rw [List.append_nil]; exact q)
    exact wpAny_mono this (fun v s2 ⟨_, _, _, _, z⟩ => z.elim) fun _ _ z => z
end
end L2
namespace L2
open PySem PySem.Spec PyProof.Rows PySem.W
abbrev Fg := Bf → Option Str
def bH (K : Frag) (R : Str → Hp → Prop) (te : TE) (g : Fg) : Prop := ∀ (O : List Addr) (σ : St) (H : Hp) (ρ : Bf) (C : Str) (Q : VK), Cd O H → Dm K (Ah O H) σ ρ → g ρ = some C → (∀ H', Ao H H' → R C H') → te σ H Q
structure Kf (X : Cx) (K : Frag) (R : Str → Hp → Prop) (e : Expr) (te : TE) (f : BW) (g : Fg) : Prop where
  pe : PE X e te
  pu : Le K te f
  px : bH K R te g
structure Pn (X : Cx) (K : Frag) (R : Str → Hp → Prop) (e : Expr) (te : TE) (f : PF) (g : Fg) : Prop where
  pe : PE X e te
  pu : G8 K te f
  px : bH K R te g
def O9 (r : BW) (g : List D → Option Str) : Fg := fun ρ => (r ρ).bind g
section
variable {P : Program} {w : World} {K : Frag} {mg : Str → Option Value} {base : Heap} {N : List Str} {qual : Str} {scope : Scope} {f : Addr} {cd : Value} {A : Around} {outer : List Env} {s : Shared} {H : Hp} {E : XK}
  {k n : Nat} {x : Str} {ps : List Str} {e : Expr} {es : List Expr} {t : TA} {r : BW} {p pos : Pos} {g : List D → Option Str}
theorem We {fl : List D → Option (List D)} (C : Callee P w K mg base k x ps (Bw K n fl)) (CX : Gd P w K mg base k x ps (Dy K n mg g)) (hf : Ht n fl) (hg2 : Ht n g) (hr : CV k (A.deeper (envOfC qual scope s.heap.objs.size f cd))) (hg : Gl (Dh (Fe P w) P w K mg base N qual scope f cd A outer s H E) x) (ha : JA (Dh (Fe P w) P w K mg base N qual scope f cd A outer s H E) K (e :: es) t r) (hdb : (x == ("__debug__" : Str)) = false := by decide) (he : starEach (e :: es) (Dh (Fe P w) P w K mg base N qual scope f cd A outer s H E).env = (false, eval e (Dh (Fe P w) P w K mg base N qual scope f cd A outer s H E).env) :: starEach es (Dh (Fe P w) P w K mg base N qual scope f cd A outer s H E).env := by rfl) (hpl : (backTo pos (starEach es (Dh (Fe P w) P w K mg base N qual scope f cd A outer s H E).env)).any (·.1) = false := by rfl) :
    Kf (Dh (Fe P w) P w K mg base N qual scope f cd A outer s H E) K (fun y H' => ∀ C, mg y = some (.ref C) → E (.ref C) none H') (.Call (.Name x p) (e :: es) [] pos) (rH (Bw K n fl) (Dy K n mg g) E t) (BX fl r) (O9 r g) := by
  refine ⟨AHl (X := Dh (Fe P w) P w K mg base N qual scope f cd A outer s H E) C CX (AG8 fun _ _ h => h) hr hg ha.pe hdb he hpl, ?_, ?_⟩
  · intro O σ H ρ d Q ok er h q
    obtain ⟨ds, e1, h⟩ := Ar h
    exact ha.pu O σ H ρ ds _ ok er e1 fun vs H1 s1 r1 => .inl ⟨by rw [r1.length]; exact hf ds d h, O, ds, d, ok.mono s1, r1, h, fun a xs H' s' hn ha' rv => q a xs H' (s1.trans s') (s1.free hn) ha' rv⟩
  · intro O σ H ρ C Q ok er h q
    obtain ⟨ds, e1, h⟩ := Ar h
    exact ha.pu O σ H ρ ds _ ok er e1 fun vs H1 s1 r1 => .inr ⟨by rw [r1.length]; exact hg2 ds C h, O, ds, C, ok.mono s1, r1, h, fun H' s' => q H' (s1.trans s')⟩
end
section
variable {X : Cx} {K : Frag} {R : Str → Hp → Prop} {st : Stmt} {te : TE} {g : Fg}
theorem ACx {i : Nat} {vf : Aq → Option Sl} (h : PS X st (Gg te (El i))) (pv : Hh K te vf) (px : bH K R te g) : JX X K R st (Gg te (El i)) (Ay i vf) (fun ρ => g (masked ρ)) := ⟨(Qm h pv).pe, (Qm h pv).pu, by
  intro H0 O0 Gh σ H ρ C E ok s hf q
  obtain ⟨O, s0, n, nd, gg, sl⟩ := s.ex
  exact px (O0 ++ O) σ H (masked ρ) C _ (Jj ok s0 sl) sl.mask hf fun H' s' => q σ H' ρ (s.grow s')⟩
theorem AFW {e : Expr} {f : BW} {pos : Pos} (he : Kf X K R e te f g) : JX X K R (.Return (some e) pos) (N6 te) (Dr f) (fun ρ => g (full ρ)) := ⟨Qn he.pe, (by
  intro H0 O0 G σ H ρ o E ok s hf q
  obtain ⟨d, e1, hf⟩ := Ar hf
  cases hf
  have ⟨o1, e2⟩ := s.HR ok
  exact he.pu O0 σ H (full ρ) d _ o1 e2 e1 fun a xs H' s' hn ha r => q a xs H' (s.same.trans s') (s.same.free hn) ha r), by
  intro H0 O0 Gh σ H ρ C E ok s hf q
  have ⟨o1, e2⟩ := s.HR ok
  exact he.px O0 σ H (full ρ) C _ o1 e2 hf fun H' s' => q σ H' ρ (s.grow s')⟩
theorem AIV {e : Expr} {f : PF} {pos : Pos} (he : Pn X K R e te f g) : JX X K R (.Return (some e) pos) (N6 te) (Bh f) (fun ρ => g (full ρ)) := ⟨Qn he.pe, (by
  intro H0 O0 G σ H ρ o E ok s hf q
  obtain ⟨d, e1, hf⟩ := Ar hf
  cases hf
  have ⟨o1, e2⟩ := s.HR ok
  exact he.pu O0 σ H (full ρ) d _ o1 e2 e1 fun v H' s' r => q v H' (s.same.trans s') r), by
  intro H0 O0 Gh σ H ρ C E ok s hf q
  have ⟨o1, e2⟩ := s.HR ok
  exact he.px O0 σ H (full ρ) C _ o1 e2 hf fun H' s' => q σ H' ρ (s.grow s')⟩
end
end L2
namespace L2
open PySem PySem.Spec PyProof.Rows PySem.W
theorem M3 (n m : Nat) (G : En) : Ht n (Im n m G) := fun ds a h => by
  unfold Im at h
  by_cases hc : ds.length = n
  · exact hc
  · rw [if_neg hc] at h; cases h
structure W8 (X : Cx) (K : Frag) (R : Str → Hp → Prop) (es : List Expr) (t : TA) (f : BW) (g : Fg) : Prop where
  pe : PA X es t
  pu : T4 K t f
  px : ∀ (O : List Addr) (σ : St) (H : Hp) (ρ : Bf) (C : Str) (Q : List V → Hp → Prop), Cd O H → Dm K (Ah O H) σ ρ → g ρ = some C → (∀ H', Ao H H' → R C H') → t σ H Q
section
variable {X : Cx} {K : Frag} {R : Str → Hp → Prop}
theorem Kf.jex {e : Expr} {te : TE} {f : BW} {g : Fg} (j : Kf X K R e te f g) : Pn X K R e te (Aw f) g := ⟨j.pe, (JL.je ⟨j.pe, j.pu⟩).pu, j.px⟩
theorem rY {i : Nat} {y : Str} {e : Expr} {te : TE} {f : BW} {g : Fg} {pos pos' : Pos} (hN : X.N.Nodup) (hi : X.N[i]? = some y) (hx : Loc X.env.scope y) (j : Kf X K R e te f g) (hs : swapsWith e (some (.Name y pos')) pos.line X.env = pure false := by rfl) (hf : X.fn y = true ∨ X.env.scope.names.lookup y = some .local := by first | exact .inl rfl | exact .inr rfl | assumption) :
    JX X K R (.Assign [.Name y pos'] e pos) (Gg te (El i)) (Ay i (vS (Aw f))) (fun ρ => g (masked ρ)) := ACx (WN hN hi hx j.pe hs hf) (PX (JL.je ⟨j.pe, j.pu⟩).pu) j.px
theorem ADu {e : Expr} {te : TE} {f : PF} {g : Fg} (h : Pn X K R e te f g) (hs : starEach [e] X.env = (false, eval e X.env) :: starEach [] X.env := by rfl) : W8 X K R [e] (GQ te Gy) (Ab f Ae) g :=
  ⟨(Ek h.pe Iv hs), (Ag (X := X) ⟨h.pe, h.pu⟩ Aj hs).pu, by
  intro O σ H ρ C Q ok er hg q
  exact h.px O σ H ρ C _ ok er hg q⟩
def pG (f : PF) (g : Fg) : Fg := fun ρ => (f ρ).bind fun _ => g ρ
theorem zZ {e : Expr} {es : List Expr} {te : TE} {t : TA} {f : PF} {r : BW} {g : Fg} (ha : JE X K e te f) (hr : W8 X K R es t r g) (hs : starEach (e :: es) X.env = (false, eval e X.env) :: starEach es X.env := by rfl) : W8 X K R (e :: es) (GQ te t) (Ab f r) (pG f g) :=
  ⟨Ek ha.pe hr.pe hs, (Ag (X := X) ha ⟨hr.pe, hr.pu⟩ hs).pu, by
  intro O σ H ρ C Q ok er hg q
  obtain ⟨x, e1, hg⟩ := Ar hg
  exact ha.pu O σ H ρ x _ ok er e1 fun v H1 s1 r1 => hr.px O σ H1 ρ C _ (ok.mono s1) (er.Ah s1) hg fun H' s' => q H' (s1.trans s')⟩
theorem ACH {k n : Nat} {x : Str} {ps : List Str} {p pos : Pos} {e : Expr} {es : List Expr} {t : TA} {r : BW} {g : Fg} {f : List D → Option (List D)} (C : Callee X.prog X.w X.K X.mg X.base k x ps (Bw K n f)) (hf : Ht n f) (hr : CV k X.A) (hg : Gl X x) (ha : W8 X K R (e :: es) t r g) (hdb : (x == ("__debug__" : Str)) = false := by decide)
    (hst : starEach (e :: es) X.env = (false, eval e X.env) :: starEach es X.env := by rfl) (hpl : (backTo pos (starEach es X.env)).any (·.1) = false := by rfl) : Kf X K R (.Call (.Name x p) (e :: es) [] pos) (Qz (Bw K n f) [] E0 t) (BX f r) g :=
  ⟨Yd C hr hg ha.pe hdb hst hpl, (Fq (X := X) (p := p) C hf hr hg ⟨ha.pe, ha.pu⟩ hdb hst hpl).pu, by
  intro O σ H ρ C' Q ok er h q
  exact ha.px O σ H ρ C' _ ok er h q⟩
end
end L2
namespace L2
open PySem PySem.Spec PyProof.Rows PySem.W
section
variable {X : Cx} {c1 : Stmt} {t1 : Ends → (Addr → Hp → Prop) → St → Hp → Prop} {x n : Str} {i : Nat} {Dc : Addr} {Cs : List Addr} {np hpos pos : Pos} {b₀ : Stmt} {Jw : List Stmt} {tb : Addr → TS}
def b8 (t1 : Ends → (Addr → Hp → Prop) → St → Hp → Prop) (i : Nat) (Cs : List Addr) (tb : Addr → TS) : TS := fun D σ H =>
  t1 D (fun C H2 => C ∈ Cs ∧ ∀ a, H2 a = none → tb C (UL i D) (σ.set i (some (.ref a))) (upd H2 a (.ext (JD a C)))) σ H
theorem AGe (Qo : X.stack = X.env :: X.outer) (hfm : X.env.frame = some X.env.locals) (hN : X.N.Nodup) (hi : X.N[i]? = some n) (hl : X.env.kindOf n = some .local) (hg : Gl X x) (hm : X.mg x = some (.ref Dc)) (hD : excIn X.K Dc Hr "ValueError.__new__" = true) (hsub : ∀ C ∈ Cs, mroIn X.K C (.ref Dc) = some true) (h1 : ∀ (pins : List (Addr × Obj)) (s : Shared) (σ : St) (H : Hp) (D : Ends) (R : Addr → Hp → Prop), Inv X pins σ H s → t1 D R σ H → wpAny (model X.prog X.w) X.A (exec c1 X.env) (SP X pins D) (XE X pins σ R) s) (hb : ∀ (a C : Addr), C ∈ Cs → Ez (X.Nu a fun _ _ => False) (b₀ :: Jw) (tb C)) (hd : (x == ("__debug__" : Str)) = false := by decide) (hf : X.fn n = true ∨ X.env.scope.names.lookup n = some .local := by first | exact .inl rfl | exact .inr rfl | assumption) :
    PS X (.Try [c1] [.ExceptHandler (some (.Name x np)) (some n) (b₀ :: Jw) hpos] [] [] pos) (b8 t1 i Cs tb) := by
  intro pins s σ H D I h
  refine wpAny_Try_except (wpAny_mono (?_ : wpAny (model X.prog X.w) X.A (execs [c1] X.env) (SP X pins D) (XE X pins σ (fun C H2 => C ∈ Cs ∧ ∀ a, H2 a = none → tb C (UL i D) (σ.set i (some (.ref a))) (upd H2 a (.ext (JD a C))))) s) (fun f s1 q => ?_) fun e s1 q => ?_)
  · refine wpAny_execs_cons (wpAny_mono (h1 pins s σ H D _ I h) (fun f s2 q => ?_) fun _ _ z => z)
    cases f with
    | next => exact wpAny_execs_nil q
    | ret v => exact q
    | brk => exact q
    | cont => exact q
  · cases f with
    | next => exact wpAny_execs_nil q
    | ret v => exact q
    | brk => exact q
    | cont => exact q
  · obtain ⟨a, C, H', rfl, S, hC, ht⟩ := q
    have hn : H' a = none := by
      obtain ⟨t, B, _, _, hH, _⟩ := S
      exact hH
    exact ABx Qo hfm hN hi hl hg hm hD (hsub C hC) S (hb a C hC) (ht a hn) hd hf
end
end L2
namespace L2
open PySem PySem.Spec PyProof.Rows PySem.W
section
variable {K : Frag} {G H : Hp}
theorem Slots.Ys {v : Option V} {σ : St} {ρ : Aq} {O : List Addr} (s : Slots K G H σ ρ O) : ∀ {j : Nat}, ρ[j]? = some .no → Slots K G H (σ.set j v) ρ O := by
  induction s with
  | nil => intro j h; simp at h
  | no s ih =>
    intro j h
    cases j with
    | zero => exact .no s
    | succ j => exact .no (ih (by simpa using h))
  | sh r s ih =>
    intro j h
    cases j with
    | zero => simp at h
    | succ j => exact .sh r (ih (by simpa using h))
  | ow e r s ih =>
    intro j h
    cases j with
    | zero => simp at h
    | succ j => exact .ow e r (ih (by simpa using h))
  | on e r s ih =>
    intro j h
    cases j with
    | zero => simp at h
    | succ j => exact .on e r (ih (by simpa using h))
  | tr e s ih =>
    intro j h
    cases j with
    | zero => simp at h
    | succ j => exact .tr e (ih (by simpa using h))
theorem CP.Ys {H0 : Hp} {O0 : List Addr} {σ : St} {ρ : Aq} {v : Option V} (t : CP K H0 O0 G σ H ρ) {j : Nat} (h : ρ[j]? = some .no) : CP K H0 O0 G (σ.set j v) H ρ := by
  obtain ⟨O, s0, n, nd, g, sl⟩ := t.ex
  exact ⟨O, s0, n, nd, g, sl.Ys h⟩
end
structure KC3 (K : Frag) (mg : Str → Option Value) (x1 : Str) (C1 : Addr) (ds : List Addr) : Prop where
  m1 : mg x1 = some (.ref C1)
  a1 : kitOne K (.ref C1) (.ref C1) = some true
  a3 : kitAny K (.ref C1) (ds.map Value.ref) = some false
  a4 : kitOne K (.ref C1) (.type "ValueError") = some true
  dl : ds.length ≤ 1000
def Vx : Option Sl → Bool
  | some .no => true
  | _ => false
theorem AGo {s : Option Sl} (h : Vx s = true) : s = some .no := by
  unfold Vx at h
  split at h
  · rfl
  · cases h
end L2
namespace L2
open PySem PySem.Spec PyProof.Rows
def Io (f : Str) : List (D × D) → Option D
  | [] => none
  | (k, d) :: r => match k with
    | .str g => if f = g then some d else Io f r
    | _ => Io f r
def HJ (f : Str) : D → Option D
  | .dict (_ :: kvs) => Io f kvs
  | _ => none
def Dj (e : PF) (f : Str) : PF := fun ρ => (e ρ).bind (HJ f)
def JB (K : Frag) (f : Str) : Prop := ∀ C, Pg K C → Nk K C f
section
variable {X : Cx} {K : Frag}
theorem vR {H : Hp} (f : Str) : ∀ {fs : List (Str × V)} {ds : List D} {d : D}, BP K H (fs.map (·.2)) ds → Io f (((fs.map (·.1)).zip ds).map fun p => (PyData.str p.1, p.2)) = some d → ∃ v, fs.lookup f = some v ∧ Rep K H v d
  | [], _, _, r, h => by cases r; cases h
  | (g, v) :: fs, _, _, .cons q r, h => by
    have h' : (if f = g then some _ else Io f _) = some _ := h
    by_cases e : f = g
    · rw [if_pos e] at h'
      cases h'
      refine ⟨v, ?_, q⟩
      rw [List.lookup_cons, e]
      simp
    · rw [if_neg e] at h'
      obtain ⟨u, e1, e2⟩ := vR f r h'
      refine ⟨u, ?_, e2⟩
      rw [List.lookup_cons]
      have : (f == g) = false := by simpa using e
      rw [this]
      exact e1
theorem u6 {H : Hp} (f : Str) : ∀ {fs : List (Str × V)} {ds : List D}, BP K H (fs.map (·.2)) ds → Io f (((fs.map (·.1)).zip ds).map fun p => (PyData.str p.1, p.2)) = none → fs.lookup f = none
  | [], _, r, h => rfl
  | (g, v) :: fs, _, .cons q r, h => by
    have h' : (if f = g then some _ else Io f _) = none := h
    by_cases e : f = g
    · rw [if_pos e] at h'
      cases h'
    · rw [if_neg e] at h'
      rw [List.lookup_cons]
      have : (f == g) = false := by simpa using e
      rw [this]
      exact u6 f r h'
theorem G6 {e : Expr} {te : TE} {fe : PF} {f : Str} {pos : Pos} (hK : X.K = K) (hn : JB K f) (he : JE X K e te fe) (hb : attributeBase e f X.env (eval e X.env) = eval e X.env := by rfl) :
    JE X K (.Attribute e f pos) (mK K te f) (Dj fe f) := ⟨by subst hK; exact AIF he.pe hb, by
  intro O σ H ρ d Q ok er h q
  obtain ⟨x, e1, h⟩ := Ar h
  refine he.pu O σ H ρ x _ ok er e1 fun v H1 s1 r1 => ?_
  cases r1 with
  | obj k hq r z =>
    subst z
    obtain ⟨u, l, ru⟩ := vR f r h
    exact ⟨_, _, _, _, u, rfl, (Iw hq).2, k.cl, hn _ k, l, q u H1 s1 ru⟩
  | dic _ => cases h
  | _ => cases h⟩
end
structure WR (K : Frag) (x qual : Str) (st : Stmt) (f : Addr) (fd : FuncData) : Prop where
  ex : ∃ (oc : Value) (od : Option Addr) (dV kV doc pm : Value) (an : Option Addr) (cdv ct : Value) (osl : Array (Option Value)),
    fd = fnOf x qual (Fx st) (Df st) (BL st) dV kV doc pm an cdv ct ∧ K.lookup f = some ⟨oc, od, .func fd, osl⟩ ∧ codeIn K cdv qual = true
  kp : keepIn K (.ref f) = true
theorem WR.ok {P : Program} {w : World} {K : Frag} {mg : Str → Option Value} {base : Heap} {x qual : Str} {st : Stmt} {f : Addr} {fd : FuncData} {N ps : List Str} {k : Nat} {sp : Sp} (F : WR K x qual st f fd) (S : Bk N ps (BL st)) (len : ∀ vs H Q E, sp vs H Q E → vs.length = ps.length) (hbody : ∀ (cdv : Value) (A : Around) (outer : List Env) (s : Shared) (H : Hp) (vs : List V) (Q : VK) (E : XK), CV k (A.deeper (envOfC qual (BL st) s.heap.objs.size f cdv)) → sp vs H Q E →
      ∃ t, Ez (Dh GZ P w K mg base N qual (BL st) f cdv A outer s H E).Ds (Df st) t ∧ t { nx := fun _ H' => Q .non H', rt := Q } (start N vs) H) : Ei P w K mg base GZ (k + 1) f fd ps sp := by
  obtain ⟨oc, od, dV, kV, doc, pm, an, cdv, ct, osl, rfl, lk, hcd⟩ := F.ex
  refine Wb lk hcd S len fun A outer s H vs Q E hr hsp => ?_
  obtain ⟨t, h, q⟩ := hbody cdv A outer s H vs Q E hr hsp
  exact ⟨t, h.Ds, q⟩
structure Cz (K : Frag) (C : Addr) (m qual : Str) (st : Stmt) (ps : List Str) : Prop where
  ex : ∃ (f : Addr) (fd : FuncData), WR K m qual st f fd ∧ Meth K C m f ∧ Binds K fd ps []
structure Dg (P : Program) (w : World) (K : Frag) (mg : Str → Option Value) (base : Heap) (k : Nat) (C : Addr) (m : Str) (ps : List Str) (sp : Sp) : Prop where
  ex : ∃ (f : Addr) (fd : FuncData), Ei P w K mg base GZ k f fd ps sp ∧ Meth K C m f ∧ Binds K fd ps []
section
variable {P : Program} {w : World} {K : Frag} {mg : Str → Option Value} {base : Heap} {C : Addr}
theorem Dg.mono {j k : Nat} {m : Str} {ps : List Str} {sp : Sp} (c : Dg P w K mg base j C m ps sp) (h : j ≤ k) : Dg P w K mg base k C m ps sp := by
  obtain ⟨f, fd, F, r⟩ := c.ex
  exact ⟨f, fd, F.mono h, r⟩
theorem Cz.ok {m qual : Str} {st : Stmt} {N ps : List Str} {k : Nat} {sp : Sp} (D : Cz K C m qual st ps) (S : Bk N ps (BL st)) (len : ∀ vs H Q E, sp vs H Q E → vs.length = ps.length) (hbody : ∀ (f : Addr) (cdv : Value) (A : Around) (outer : List Env) (s : Shared) (H : Hp) (vs : List V) (Q : VK) (E : XK), CV k (A.deeper (envOfC qual (BL st) s.heap.objs.size f cdv)) → sp vs H Q E →
      ∃ t, Ez (Dh GZ P w K mg base N qual (BL st) f cdv A outer s H E).Ds (Df st) t ∧ t { nx := fun _ H' => Q .non H', rt := Q } (start N vs) H) : Dg P w K mg base (k + 1) C m ps sp := by
  obtain ⟨f, fd, F, me, b⟩ := D.ex
  exact ⟨f, fd, F.ok S len (fun cdv A outer s H vs Q E hr h => hbody f cdv A outer s H vs Q E hr h), me, b⟩
theorem Cz.Cy {x qual : Str} {st : Stmt} {N ps : List Str} {k n m : Nat} {F : Am} {fn : List D → Option D} (hfn : fn = Ba n m F) (D : Cz K C x qual st ps) (S : Bk N ps (BL st)) (hn : ps.length = n) (hm : N.length = m) (hb : ∀ (f : Addr) (cdv : Value) (A : Around) (outer : List Env) (s : Shared) (H : Hp) (E : XK), CV k (A.deeper (envOfC qual (BL st) s.heap.objs.size f cdv)) →
      ∃ t, Gu (Dh GZ P w K mg base N qual (BL st) f cdv A outer s H E).Ds K (Df st) t F) : Dg P w K mg base (k + 1) C x ps (BR K n fn) := by
  subst hfn hm
  refine D.ok S (fun vs H Q E h => by rw [h.1, hn]) fun f cdv A outer s H vs Q E hr h => ?_
  obtain ⟨t, j⟩ := hb f cdv A outer s H E hr
  refine ⟨t, j.pe, ?_⟩
  obtain ⟨hl, O, ds, d, ok, r, hf, q⟩ := h
  have hl2 : ds.length = n := by rw [← r.length]; exact hl
  unfold Ba at hf
  rw [if_pos hl2] at hf
  obtain ⟨o, e1, hf⟩ := Ar hf
  refine j.pu H O (Ah O H) _ H _ o _ ok (Nv r N) e1 ?_
  cases o with
  | nx ρ => cases hf; exact fun σ' H' t' => q .non H' t'.same .non
  | rt d' => cases hf; exact fun v H' s' r' => q v H' s' r'
  | rl es =>
    cases hf
    refine fun a xs H' s' hn' ha r' => q (.ref a) H' s' ?_
    exact .lst (Bl.of (by rw [Cm (ok.fresh hn')]; exact ha)) (r'.mono (DY fun b hb => BZ hb))
  | rn ess =>
    cases hf
    refine fun a ps H' s' nd' hn' ha r' => q (.ref a) H' s' ?_
    refine .lst (Bl.of (by rw [Cm (ok.fresh (hn' a CW))]; exact ha)) (r'.full (DY fun b hb => By hb) fun b hb o e => ?_)
    rw [Cm (ok.fresh (hn' b (BZ hb)))]
    exact e
  | rp es d2 =>
    cases hf
    refine fun p a xs v H' s' ha0 hp0 ha hp r' rv => q (.ref p) H' s' ?_
    have sb : Ao (Ah (a :: O) H') (Ah O H') := DY fun b hb => BZ hb
    exact .tup (Dt.of (by rw [Cm (ok.fresh hp0)]; exact hp)) (.cons (.lst (Bl.of (by rw [Cm (ok.fresh ha0)]; exact ha)) (r'.mono sb)) (.cons (rv.mono sb) .nil))
  | ro d2 ρ2 => cases hf
  | bk ρ => cases hf
  | ct ρ => cases hf
theorem Cz.Hc {x qual : Str} {st : Stmt} {N ps : List Str} {k n m : Nat} {F : Am} {fn : List D → Option (List D)} (hfn : fn = Ci n m F) (D : Cz K C x qual st ps) (S : Bk N ps (BL st)) (hn : ps.length = n) (hm : N.length = m) (hb : ∀ (f : Addr) (cdv : Value) (A : Around) (outer : List Env) (s : Shared) (H : Hp) (E : XK), CV k (A.deeper (envOfC qual (BL st) s.heap.objs.size f cdv)) →
      ∃ t, Gu (Dh GZ P w K mg base N qual (BL st) f cdv A outer s H E).Ds K (Df st) t F) : Dg P w K mg base (k + 1) C x ps (Bw K n fn) := by
  subst hfn hm
  refine D.ok S (fun vs H Q E h => by rw [h.1, hn]) fun f cdv A outer s H vs Q E hr h => ?_
  obtain ⟨t, j⟩ := hb f cdv A outer s H E hr
  refine ⟨t, j.pe, ?_⟩
  obtain ⟨hl, O, ds, d, ok, r, hf, q⟩ := h
  have hl2 : ds.length = n := by rw [← r.length]; exact hl
  unfold Ci at hf
  rw [if_pos hl2] at hf
  obtain ⟨o, e1, hf⟩ := Ar hf
  refine j.pu H O (Ah O H) _ H _ o _ ok (Nv r N) e1 ?_
  cases o with
  | rl es => cases hf; exact fun a xs H' s' hn' ha r' => q a xs H' s' hn' ha r'
  | _ => cases hf
end
def Du (m : Str) : D → Bool
  | .dict (_ :: kvs) => (Io m kvs).isNone
  | _ => false
def Hu {α : Type} (m : Str) (f : List D → Option α) (o : PF) (r : BW) : Bf → Option α := fun ρ => (o ρ).bind fun d => (r ρ).bind fun ds => if Du m d = true then f (d :: ds) else none
section
variable {X : Cx} {K : Frag} {k n : Nat} {m : Str} {ps : List Str} {apos pos : Pos} {o e : Expr} {es : List Expr} {to : TE} {fo : PF} {t : TA} {r : BW} {C : Addr}
theorem Za {C' : Addr} (hC : nsIn K mainGlobals "Keeper" = some (some (.ref C))) (k : Pg K C') : C' = C := by
  have := k.ns.symm.trans hC
  cases this
  rfl
theorem Yg {H : Hp} {O : List Addr} {v : V} {d : D} (hC : nsIn K mainGlobals "Keeper" = some (some (.ref C))) (r : Rep K (Ah O H) v d) (h : Du m d = true) : ∃ a dx fs, v = .ref a ∧ H a = some (.ins C dx fs) ∧ fs.lookup m = none := by
  cases r with
  | obj k hq r z =>
    subst z
    cases Za hC k
    refine ⟨_, _, _, rfl, (Iw hq).2, u6 m r ?_⟩
    have h' : (Io m _).isNone = true := h
    exact Option.isNone_iff_eq_none.mp h'
  | dic _ => cases h
  | _ => cases h
theorem Rx {f : List D → Option D} (hK : X.K = K) (hC : nsIn K mainGlobals "Keeper" = some (some (.ref C))) (cl : Gq K C) (c : Dg X.prog X.w X.K X.mg X.base k C m ps (BR K n f)) (hf : Ht n f) (hr : CV k X.A) (ho : JE X K o to fo) {pl : Sem Bool} (ht : eval (.Call (.Attribute o m apos) [] [] pos) X.env = (do
      let ov ← eval o X.env
      standAt apos.atName
      let (f, first) ← holding [ov] (getMethod ov m pl)
      callWith pos f first (backTo pos (starEach [] X.env)) (backToKw pos (keywordEach [] X.env))) := by rfl) :
    JE X K (.Call (.Attribute o m apos) [] [] pos) (OD C m (BR K n f) [] E0 to Gy) (Hu m f fo Ae) := ⟨by
  subst hK
  obtain ⟨g, fd, F, me, b⟩ := c.ex
  exact pW ho.pe cl me F hr b .nil Nr ht, by
  intro O σ H ρ d Q ok er h q
  obtain ⟨x, e1, h⟩ := Ar h
  obtain ⟨ds, e2, h⟩ := Ar h
  cases e2
  refine ho.pu O σ H ρ x _ ok er e1 fun v H1 s1 r1 => ?_
  by_cases hm : Du m x = true
  case neg => rw [if_neg hm] at h; cases h
  rw [if_pos hm] at h
  obtain ⟨a, dx, fs, rfl, ha, hl⟩ := Yg hC r1 hm
  refine ⟨a, dx, fs, rfl, ha, hl, ?_⟩
  exact ⟨hf _ _ h, O, [x], d, ok.mono s1, .cons r1 .nil, h, fun v H' s' rv => q v H' (s1.trans s') rv⟩⟩
theorem U6 {f : List D → Option (List D)} (hK : X.K = K) (hC : nsIn K mainGlobals "Keeper" = some (some (.ref C))) (cl : Gq K C) (c : Dg X.prog X.w X.K X.mg X.base k C m ps (Bw K n f)) (hf : Ht n f) (hr : CV k X.A) (ho : JE X K o to fo) {pl : Sem Bool} (ht : eval (.Call (.Attribute o m apos) [] [] pos) X.env = (do
      let ov ← eval o X.env
      standAt apos.atName
      let (f, first) ← holding [ov] (getMethod ov m pl)
      callWith pos f first (backTo pos (starEach [] X.env)) (backToKw pos (keywordEach [] X.env))) := by rfl) :
    JL X K (.Call (.Attribute o m apos) [] [] pos) (OD C m (Bw K n f) [] E0 to Gy) (Hu m f fo Ae) := ⟨by
  subst hK
  obtain ⟨g, fd, F, me, b⟩ := c.ex
  exact pW ho.pe cl me F hr b .nil Nr ht, by
  intro O σ H ρ d Q ok er h q
  obtain ⟨x, e1, h⟩ := Ar h
  obtain ⟨ds, e2, h⟩ := Ar h
  cases e2
  refine ho.pu O σ H ρ x _ ok er e1 fun v H1 s1 r1 => ?_
  by_cases hm : Du m x = true
  case neg => rw [if_neg hm] at h; cases h
  rw [if_pos hm] at h
  obtain ⟨a, dx, fs, rfl, ha, hl⟩ := Yg hC r1 hm
  refine ⟨a, dx, fs, rfl, ha, hl, ?_⟩
  exact ⟨hf _ _ h, O, [x], d, ok.mono s1, .cons r1 .nil, h, fun a xs H' s' hn ha' rv => q a xs H' (s1.trans s') (s1.free hn) ha' rv⟩⟩
end
end L2
namespace L2
open PySem PySem.Spec PyProof.Rows
abbrev Ob := List Str × List D
def Hi (f : Str) (d : D) : List Str → List D → Ob
  | g :: ks, e :: ds => if g = f then (g :: ks, d :: ds) else (g :: (Hi f d ks ds).1, e :: (Hi f d ks ds).2)
  | _, _ => ([f], [d])
def Nf : Sl → Option (Addr × Ob)
  | .tr a (.obj ks ds) => some (a, ks, ds)
  | _ => none
theorem Xb {s : Sl} {a : Addr} {o : Ob} (h : Nf s = some (a, o)) : s = .tr a (.obj o.1 o.2) := by
  unfold Nf at h
  split at h
  · cases h; rfl
  · cases h
def IW (i : Nat) (f : Str) (vf : Aq → Option Sl) : Am := fun ρ => (vf ρ).bind fun s => (Kw s).bind fun d => (ρ[i]?).bind fun s' => (Nf s').bind fun q => if q.2.1.length < 1000 then some (.nx (ρ.set i (.tr q.1 (.obj (Hi f d q.2.1 q.2.2).1 (Hi f d q.2.1 q.2.2).2)))) else none
section
variable {K : Frag}
theorem sS {H : Hp} {f : Str} {v : V} {d : D} (r : Rep K H v d) : ∀ {fs : List (Str × V)} {ds : List D}, BP K H (fs.map (·.2)) ds → (FQ f v fs).map (·.1) = (Hi f d (fs.map (·.1)) ds).1 ∧ BP K H ((FQ f v fs).map (·.2)) (Hi f d (fs.map (·.1)) ds).2
  | [], _, h => by cases h; exact ⟨rfl, .cons r .nil⟩
  | (g, x) :: fs, e0 :: ds, .cons q t => by
    obtain ⟨e1, e2⟩ := sS r t
    by_cases e : g = f
    · have p1 : FQ f v ((g, x) :: fs) = (g, v) :: fs := if_pos e
      have p2 : Hi f d (((g, x) :: fs).map (·.1)) (e0 :: ds) = (g :: fs.map (·.1), d :: ds) := if_pos e
      rw [p1, p2]
      exact ⟨rfl, .cons r t⟩
    · have p1 : FQ f v ((g, x) :: fs) = (g, x) :: FQ f v fs := if_neg e
      have p2 : Hi f d (((g, x) :: fs).map (·.1)) (e0 :: ds) = (g :: (Hi f d (fs.map (·.1)) ds).1, e0 :: (Hi f d (fs.map (·.1)) ds).2) := if_neg e
      rw [p1, p2]
      exact ⟨congrArg (g :: ·) e1, .cons q e2⟩
theorem Slots.change {H H' : Hp} {a : Addr} {c c' : Cn} (hs : ∀ (b : Addr) (o : HO), b ≠ a → H b = some o → H' b = some o) : ∀ {σ : St} {ρ : Aq} {O1 : List Addr} {i : Nat} {G1 G2 : Hp}, O1.Nodup → Slots K G1 H σ ρ O1 → Ao G1 G2 → ρ[i]? = some (.tr a c) → HQ K G2 H' a c' → Slots K G2 H' σ (ρ.set i (.tr a c')) O1 := by
  intro σ ρ O1 i G1 G2 nd s
  induction s generalizing i with
  | nil => intro _ h; cases h
  | no s ih =>
    intro g h hc
    cases i with
    | zero => cases h
    | succ i => exact .no (ih nd g h hc)
  | sh r s ih =>
    intro g h hc
    cases i with
    | zero => cases h
    | succ i => exact .sh (r.mono g) (ih nd g h hc)
  | ow e r s ih =>
    intro g h hc
    have nd' := List.nodup_cons.mp nd
    cases i with
    | zero => cases h
    | succ i =>
      obtain ⟨_, q, _⟩ := s.Hw (i := i) h
      exact .ow (hs _ _ (fun z => nd'.1 (by rw [z]; exact q)) e) (r.mono g) (ih nd'.2 g h hc)
  | on e r s ih =>
    intro g h hc
    have nd' := List.nodup_cons.mp nd
    have nd2 := List.nodup_append.mp nd'.2
    cases i with
    | zero => cases h
    | succ i =>
      obtain ⟨_, q, _⟩ := s.Hw (i := i) h
      exact .on (hs _ _ (fun z => nd'.1 (by rw [z]; exact By q)) e) (r.mono g fun b hb o e => hs b o (fun z => nd2.2.2 b hb a q z) e) (ih nd2.2.1 g h hc)
  | tr e s ih =>
    intro g h hc
    have nd' := List.nodup_cons.mp nd
    cases i with
    | zero =>
      cases h
      exact .tr hc (s.mono g fun b hb o e => hs b o (fun z => nd'.1 (by rw [← z]; exact hb)) e)
    | succ i =>
      obtain ⟨_, q, _⟩ := s.Hw (i := i) h
      exact .tr (e.mono g fun o e => hs _ o (fun z => nd'.1 (by rw [z]; exact q)) e) (ih nd'.2 g h hc)
theorem m7 {O : List Addr} {H H' : Hp} {a : Addr} (ha : a ∈ O) (hs : ∀ (b : Addr) (o : HO), b ≠ a → H b = some o → H' b = some o) : Ao (Ah O H) (Ah O H') := fun b o e => by
  obtain ⟨n1, e⟩ := Iw e
  rw [Cm n1]
  exact hs b o (fun z => n1 (by rw [z]; exact ha)) e
theorem lK {H0 : Hp} {O0 O : List Addr} {G : Hp} {σ : St} {H H' : Hp} {ρ : Aq} {i : Nat} {a : Addr} {c c' : Cn} (hs : ∀ (b : Addr) (o : HO), b ≠ a → H b = some o → H' b = some o) (s0 : Ao H0 H) (n : ∀ b ∈ O, H0 b = none) (nd : O.Nodup) (g : Ao G (Ah (O0 ++ O) H)) (sl : Slots K (Ah (O0 ++ O) H) H σ ρ O) (hi : ρ[i]? = some (.tr a c)) (hc : HQ K (Ah (O0 ++ O) H') H' a c') : CP K H0 O0 G σ H' (ρ.set i (.tr a c')) := by
  obtain ⟨h1, h2, h3⟩ := sl.Hw hi
  have big := m7 (H' := H') (List.mem_append_right O0 h2) hs
  exact ⟨O, fun b o e => hs b o (fun z => by rw [z, n a h2] at e; cases e) (s0 b o e), n, nd, g.trans big, Slots.change hs nd sl big hi hc⟩
end
section
variable {X : Cx} {K : Frag}
theorem fD (i : Nat) {o value : Expr} {f : Str} {pos pos' : Pos} {tv : TE} {vf : Aq → Option Sl} (hK : X.K = K) (hn : JB K f) (ho : PE X o (Eh i)) (hv : PE X value tv) (pv : Hh K tv vf) (hs : swapsWith value (some (.Attribute o f pos')) pos.line X.env = pure false := by rfl) : JS X K (.Assign [.Attribute o f pos'] value pos) (Rw K (Eh i) tv f) (IW i f vf) := ⟨by subst hK; exact AHt ho hv hs, by
  intro H0 O0 G σ H ρ o E ok t hf q
  obtain ⟨s, e1, hf⟩ := Ar hf
  obtain ⟨d, e2, hf⟩ := Ar hf
  obtain ⟨s', e3, hf⟩ := Ar hf
  obtain ⟨⟨a, ks, ds⟩, e4, hf⟩ := Ar hf
  have es : s = .sh d := by
    unfold Kw at e2
    split at e2
    · cases e2; rfl
    · cases e2
  subst es
  have e5 := Xb e4
  subst e5
  have hf : (if ks.length < 1000 then some (Out.nx (ρ.set i (.tr a (.obj (Hi f d ks ds).1 (Hi f d ks ds).2)))) else none) = some o := hf
  by_cases hl : ks.length < 1000
  case neg => rw [if_neg hl] at hf; cases hf
  rw [if_pos hl] at hf
  cases hf
  refine pv H0 O0 G σ H ρ (.sh d) _ ok t e1 fun v H1 s1 sv => ?_
  obtain ⟨O, P, s0, n, nd, g, sl, hp, r⟩ := sv.ex
  subst hp
  obtain ⟨h1, h2, C, dx, fs, kk, ha, hks, hr⟩ := sl.Hw e3
  refine ⟨_, h1, a, C, dx, fs, rfl, ha, kk.cl, hn C kk, ?_, ?_⟩
  · rw [← List.length_map (f := (·.1)), hks]
    exact hl
  · obtain ⟨p1, p2⟩ := sS (f := f) r hr
    rw [hks] at p1 p2
    have eq : Ah (O0 ++ O) (upd H1 a (.ins C dx (FQ f v fs))) = Ah (O0 ++ O) H1 := M8 (By h2)
    exact q σ _ (lK (fun b o nb e => by rw [Bs nb]; exact e) s0 n nd g sl e3 ⟨C, dx, _, kk, Dz, p1, by rw [eq]; exact p2⟩)⟩
end
end L2
namespace L2
open PySem PySem.Spec PyProof.Rows
def YK (a : Addr) : Out → Option (D × Ob)
  | .ro d ρ => (ρ[0]?).bind fun s => (Nf s).bind fun q => if q.1 = a then some (d, q.2) else none
  | .nx ρ => (ρ[0]?).bind fun s => (Nf s).bind fun q => if q.1 = a then some (.none, q.2) else none
  | _ => none
def startM (m : Nat) (a : Addr) (o : Ob) (as : List D) : Aq := .tr a (.obj o.1 o.2) :: (as.map .sh ++ List.replicate (m - (as.length + 1)) .no)
abbrev MF := Addr → Ob → List D → Option (D × Ob)
def runM (n m : Nat) (F : Am) : MF := fun a o as => if as.length + 1 = n then (F (startM m a o as)).bind (YK a) else none
def Js (K : Frag) (n : Nat) (f : MF) : Sp := fun vs H Q _ => ∃ (a : Addr) (us : List V) (O : List Addr) (o : Ob) (as : List D) (r : D × Ob), vs = .ref a :: us ∧ vs.length = n ∧ Cd O H ∧ a ∉ O ∧ HQ K (Ah (a :: O) H) H a (.obj o.1 o.2) ∧ BP K (Ah (a :: O) H) us as ∧ f a o as = some r ∧
  ∀ v H', (∀ (b : Addr) (o : HO), b ≠ a → H b = some o → H' b = some o) → HQ K (Ah (a :: O) H') H' a (.obj r.2.1 r.2.2) → Rep K (Ah (a :: O) H') v r.1 → Q v H'
def Tt (n : Nat) (f : MF) : Prop := ∀ a o as r, f a o as = some r → as.length + 1 = n
theorem zA (n m : Nat) (F : Am) : Tt n (runM n m F) := fun a o as r h => by
  unfold runM at h
  by_cases hc : as.length + 1 = n
  · exact hc
  · rw [if_neg hc] at h; cases h
theorem ABL {O : List Addr} {a b : Addr} : b ∈ a :: O ↔ b ∈ O ++ [a] := by
  simp [or_comm]
section
variable {P : Program} {w : World} {K : Frag} {mg : Str → Option Value} {base : Heap} {C : Addr}
theorem AII {H : Hp} {O : List Addr} {a : Addr} {o : Ob} {us : List V} {as : List D} (na : a ∉ O) (h : HQ K (Ah (a :: O) H) H a (.obj o.1 o.2)) (r : BP K (Ah (a :: O) H) us as) (N : List Str) :
    CP K (Ah [a] H) O (Ah (O ++ [a]) H) (start N (.ref a :: us)) H (startM N.length a o as) := by
  have sb : Ao (Ah (a :: O) H) (Ah (O ++ [a]) H) := DY fun b hb => ABL.mpr hb
  refine ⟨[a], Dd, (fun b hb => by rw [List.mem_singleton.mp hb]; exact QF (by simp)), by simp, Ao.refl _, ?_⟩
  unfold start startM
  have hl := r.length
  have e : (V.ref a :: us).map some ++ List.replicate (N.length - (V.ref a :: us).length) none = some (.ref a) :: (us.map some ++ List.replicate (N.length - (as.length + 1)) none) := by
    rw [List.map_cons, List.length_cons, hl]
    rfl
  rw [e]
  exact .tr (h.mono sb fun _ z => z) (qU (r.mono sb) _)
theorem ACW {a : Addr} {o : Out} {r : D × Ob} (h : YK a o = some r) : (∃ ρ, o = .ro r.1 ρ ∧ ρ[0]? = some (.tr a (.obj r.2.1 r.2.2))) ∨ (∃ ρ, o = .nx ρ ∧ r.1 = .none ∧ ρ[0]? = some (.tr a (.obj r.2.1 r.2.2))) := by
  cases o with
  | ro d ρ =>
    left
    obtain ⟨s, e1, h⟩ := Ar h
    obtain ⟨q, e2, h⟩ := Ar h
    by_cases hc : q.1 = a
    · have h : (if q.1 = a then some (d, q.2) else none) = some r := h
      rw [if_pos hc] at h
      cases h
      have := Xb (a := q.1) (o := q.2) e2
      subst this
      exact ⟨ρ, rfl, by rw [e1, hc]⟩
    · have h : (if q.1 = a then some (d, q.2) else none) = some r := h
      rw [if_neg hc] at h
      cases h
  | nx ρ =>
    right
    obtain ⟨s, e1, h⟩ := Ar h
    obtain ⟨q, e2, h⟩ := Ar h
    by_cases hc : q.1 = a
    · have h : (if q.1 = a then some (PyData.none, q.2) else none) = some r := h
      rw [if_pos hc] at h
      cases h
      have := Xb (a := q.1) (o := q.2) e2
      subst this
      exact ⟨ρ, rfl, rfl, by rw [e1, hc]⟩
    · have h : (if q.1 = a then some (PyData.none, q.2) else none) = some r := h
      rw [if_neg hc] at h
      cases h
  | _ => cases h
theorem Cz.oW {x qual : Str} {st : Stmt} {N ps : List Str} {k n m : Nat} {F : Am} {fn : MF} (hfn : fn = runM n m F) (D : Cz K C x qual st ps) (S : Bk N ps (BL st)) (hn : ps.length = n) (hm : N.length = m) (hb : ∀ (f : Addr) (cdv : Value) (A : Around) (outer : List Env) (s : Shared) (H : Hp) (E : XK), CV k (A.deeper (envOfC qual (BL st) s.heap.objs.size f cdv)) →
      ∃ t, Gu (Dh GZ P w K mg base N qual (BL st) f cdv A outer s H E).Ds K (Df st) t F) : Dg P w K mg base (k + 1) C x ps (Js K n fn) := by
  subst hfn hm
  refine D.ok S (fun vs H Q E h => by obtain ⟨_, _, _, _, _, _, _, hl, _⟩ := h; rw [hl, hn]) fun f cdv A outer s H vs Q E hr h => ?_
  obtain ⟨t, j⟩ := hb f cdv A outer s H E hr
  refine ⟨t, j.pe, ?_⟩
  obtain ⟨a, us, O, o, as, r, rfl, hl, ok, na, held, rep, hf, q⟩ := h
  unfold runM at hf
  by_cases hc : as.length + 1 = n
  case neg => rw [if_neg hc] at hf; cases hf
  rw [if_pos hc] at hf
  obtain ⟨out, e1, hf⟩ := Ar hf
  have ok0 : Cd O (Ah [a] H) := fun b hb => by
    obtain ⟨ob, e⟩ := ok b hb
    exact ⟨ob, by rw [Cm fun z => na (by rw [← List.mem_singleton.mp z]; exact hb)]; exact e⟩
  refine j.pu (Ah [a] H) O (Ah (O ++ [a]) H) _ H _ out _ ok0 (AII na held rep N) e1 ?_
  have keep : ∀ {H' : Hp}, Ao (Ah [a] H) H' → ∀ (b : Addr) (o : HO), b ≠ a → H b = some o → H' b = some o := fun s0 b o nb e => s0 b o (by rw [Cm fun z => nb (List.mem_singleton.mp z)]; exact e)
  rcases ACW hf with ⟨ρ, rfl, h0⟩ | ⟨ρ, rfl, hr1, h0⟩
  · intro v σ H' sv
    obtain ⟨O2, P2, s0, n2, nd, g, sl, hp, rv⟩ := sv.ex
    subst hp
    obtain ⟨h1, h2, h3⟩ := sl.Hw h0
    have sb : Ao (Ah (O ++ ([] ++ O2)) H') (Ah (a :: O) H') := DY fun b hb => by
      rcases List.mem_cons.mp hb with rfl | hb
      · exact By h2
      · exact Dn hb
    exact q v H' (keep s0) (h3.mono sb fun _ z => z) (rv.mono sb)
  · intro σ H' sv
    obtain ⟨O2, s0, n2, nd, g, sl⟩ := sv.ex
    obtain ⟨h1, h2, h3⟩ := sl.Hw h0
    have sb : Ao (Ah (O ++ O2) H') (Ah (a :: O) H') := DY fun b hb => by
      rcases List.mem_cons.mp hb with rfl | hb
      · exact By h2
      · exact Dn hb
    exact q .non H' (keep s0) (h3.mono sb fun _ z => z) (by rw [hr1]; exact .non)
end
def vB (K : Frag) (te : TE) (wf : Aq → Option (D × Aq)) : Prop := ∀ (H0 : Hp) (O0 : List Addr) (G : Hp) (σ : St) (H : Hp) (ρ ρ' : Aq) (d : D) (Q : VK), Cd O0 H0 → CP K H0 O0 G σ H ρ → wf ρ = some (d, ρ') →
  (∀ v H', Ge K H0 O0 G σ H' ρ' v (.sh d) → Q v H') → te σ H Q
structure JM (X : Cx) (K : Frag) (e : Expr) (te : TE) (wf : Aq → Option (D × Aq)) : Prop where
  pe : PE X e te
  pu : vB K te wf
def V8 (i : Nat) (m : Str) (f : MF) (r : BW) : Aq → Option (D × Aq) := fun ρ => (ρ[i]?).bind fun s => (Nf s).bind fun q => (r (masked ρ)).bind fun as => if q.2.1.contains m = true then none else (f q.1 q.2 as).bind fun x => some (x.1, ρ.set i (.tr q.1 (.obj x.2.1 x.2.2)))
def fG (wf : Aq → Option (D × Aq)) : Am := fun ρ => (wf ρ).bind fun x => some (.nx x.2)
section
variable {X : Cx} {K : Frag} {C : Addr}
theorem AGJ {fs : List (Str × V)} {m : Str} : (fs.map (·.1)).contains m = false → fs.lookup m = none := by
  induction fs with
  | nil => intro _; rfl
  | cons p fs ih =>
    intro h
    rw [List.map_cons, List.contains_cons, Bool.or_eq_false_iff] at h
    rw [List.lookup_cons, h.1]
    exact ih h.2
theorem AFx {i n : Nat} {m : Str} {f : MF} {r : BW} {ta : TA} (hC : nsIn K mainGlobals "Keeper" = some (some (.ref C))) (hf : Tt n f) (ha : T4 K ta r) : vB K (OD C m (Js K n f) [] E0 (Eh i) ta) (V8 i m f r) := by
  intro H0 O0 G σ H ρ ρ' d Q ok t h q
  obtain ⟨s, e1, hA⟩ := Ar h
  obtain ⟨⟨a, o⟩, e2, hB⟩ := Ar hA
  obtain ⟨as, e3, hD⟩ := Ar hB
  have es := Xb e2
  rw [es] at e1
  clear h hA hB e2 es
  have h : (if o.1.contains m = true then none else (f a o as).bind fun x => some (x.1, ρ.set i (.tr a (.obj x.2.1 x.2.2)))) = some (d, ρ') := hD
  clear hD
  by_cases hm : o.1.contains m = true
  case pos => rw [if_pos hm] at h; cases h
  rw [if_neg hm] at h
  obtain ⟨x, e4, h⟩ := Ar h
  cases h
  obtain ⟨O, s0, n0, nd, g, sl⟩ := t.ex
  obtain ⟨h1, h2, C', dx, fs, kk, hh, hks, hr⟩ := sl.Hw e1
  cases Za hC kk
  have okA := Jj ok s0 sl
  refine ⟨_, h1, a, dx, fs, rfl, hh, AGJ (by rw [hks]; simpa using hm), ?_⟩
  refine ha (O0 ++ O) σ H (masked ρ) as _ okA sl.mask e3 fun vs H1 s1 r1 => ?_
  rw [List.append_nil]
  have sl1 := sl.mono (Eg s1 : Ao (Ah (O0 ++ O) H) (Ah (O0 ++ O) H1)) fun b _ o e => s1 b o e
  have set : ∀ b, b ∈ a :: (O0 ++ O).filter (fun b => decide (b ≠ a)) ↔ b ∈ O0 ++ O := fun b => by
    constructor
    · intro hb
      rcases List.mem_cons.mp hb with rfl | hb
      · exact By h2
      · exact (List.mem_filter.mp hb).1
    · intro hb
      by_cases e : b = a
      · rw [e]; exact CW
      · exact BZ (List.mem_filter.mpr ⟨hb, decide_eq_true e⟩)
  have to : ∀ {Hx : Hp}, Ao (Ah (O0 ++ O) Hx) (Ah (a :: (O0 ++ O).filter (fun b => decide (b ≠ a))) Hx) := DY fun b hb => (set b).mp hb
  have bk : ∀ {Hx : Hp}, Ao (Ah (a :: (O0 ++ O).filter (fun b => decide (b ≠ a))) Hx) (Ah (O0 ++ O) Hx) := DY fun b hb => (set b).mpr hb
  obtain ⟨h1', h2', held⟩ := sl1.Hw e1
  refine ⟨a, vs, (O0 ++ O).filter (fun b => decide (b ≠ a)), o, as, x, rfl, by rw [List.length_cons, r1.length]; exact hf _ _ _ _ e4, fun b hb => (okA.mono s1) b (List.mem_filter.mp hb).1, (fun z => by have := of_decide_eq_true (List.mem_filter.mp z).2; exact this rfl), held.mono to fun _ z => z, r1.mono to, e4, ?_⟩
  intro v H' keep wX rv
  have s01 := s0.trans s1
  have g1 : Ao G (Ah (O0 ++ O) H1) := g.trans (Eg s1)
  have st := lK keep s01 n0 nd g1 sl1 e1 (wX.mono bk fun _ z => z)
  refine q v H' ?_
  have big := m7 (H' := H') (List.mem_append_right O0 h2) keep
  refine ⟨O, [], fun b o e => keep b o (fun z => by rw [z, n0 a h2] at e; cases e) (s01 b o e), n0, nd, ?_, ?_, rfl, ?_⟩
  · rw [List.nil_append]; exact g1.trans big
  · rw [List.nil_append]; exact Slots.change keep nd sl1 big e1 (wX.mono bk fun _ z => z)
  · rw [List.nil_append]; exact rv.mono bk
theorem AAm {i n k : Nat} {m : Str} {f : MF} {r : BW} {ta : TA} {ps : List Str} {o e : Expr} {es : List Expr} {apos pos : Pos} (hK : X.K = K) (hC : nsIn K mainGlobals "Keeper" = some (some (.ref C))) (cl : Gq K C) (c : Dg X.prog X.w X.K X.mg X.base k C m ps (Js K n f)) (hf : Tt n f) (hr : CV k X.A) (ho : PE X o (Eh i)) (ha : JA X K (e :: es) ta r) {pl : Sem Bool} (hst : starEach (e :: es) X.env = (false, eval e X.env) :: starEach es X.env := by rfl) (hpl : (backTo pos (starEach es X.env)).any (·.1) = false := by rfl) (ht : eval (.Call (.Attribute o m apos) (e :: es) [] pos) X.env = (do
      let ov ← eval o X.env
      standAt apos.atName
      let (f, first) ← holding [ov] (getMethod ov m pl)
      callWith pos f first (backTo pos (starEach (e :: es) X.env)) (backToKw pos (keywordEach [] X.env))) := by rfl) :
    JM X K (.Call (.Attribute o m apos) (e :: es) [] pos) (OD C m (Js K n f) [] E0 (Eh i) ta) (V8 i m f r) := ⟨by
  subst hK
  obtain ⟨g, fd, F, me, b⟩ := c.ex
  exact qM ho cl me F hr b .nil Nr ha.pe hst hpl ht, AFx hC hf ha.pu⟩
theorem AGN {e : Expr} {te : TE} {wf : Aq → Option (D × Aq)} {pos : Pos} (h : JM X K e te wf) (hs : swapsWith e none pos.line X.env = pure false := by rfl) : JS X K (.Expr e pos) (Qf te) (fG wf) := ⟨kY h.pe hs, by
  intro H0 O0 G σ H ρ o E ok t hf q
  obtain ⟨⟨d, ρ'⟩, e1, hf⟩ := Ar hf
  cases hf
  exact h.pu H0 O0 G σ H ρ ρ' d _ ok t e1 fun v H' sv => q σ H' sv.str⟩
end
open Classical in
noncomputable def Mx (f : MF) (as : List D) : Option D := if h : ∃ o : Ob, ∀ a, f a ([], []) as = some (.none, o) then some (.dict (Dq h.choose.1 h.choose.2)) else none
theorem mk_eq {f : MF} {as : List D} {o : Ob} (h : ∀ a, f a ([], []) as = some (.none, o)) : Mx f as = some (.dict (Dq o.1 o.2)) := by
  have hx : ∃ o : Ob, ∀ a, f a ([], []) as = some (.none, o) := ⟨o, h⟩
  unfold Mx
  rw [dif_pos hx]
  have := hx.choose_spec 0
  rw [h 0] at this
  have e : o = hx.choose := by injection this with this; injection this
  rw [← e]
theorem AJQ {f : MF} {as : List D} {d : D} (h : Mx f as = some d) : ∃ o : Ob, (∀ a, f a ([], []) as = some (.none, o)) ∧ d = .dict (Dq o.1 o.2) := by
  unfold Mx at h
  by_cases hx : ∃ o : Ob, ∀ a, f a ([], []) as = some (.none, o)
  · rw [dif_pos hx] at h
    cases h
    exact ⟨_, hx.choose_spec, rfl⟩
  · rw [dif_neg hx] at h
    cases h
noncomputable def Uv (f : MF) (r : BW) : PF := fun ρ => (r ρ).bind (Mx f)
section
variable {X : Cx} {K : Frag} {C : Addr}
theorem zY {n : Nat} {f : MF} {r : BW} {ta : TA} (kk : Pg K C) (hf : Tt n f) (ha : T4 K ta r) : G8 K (fB C (Js K n f) [] E0 ta) (Uv f r) := by
  intro O σ H ρ d Q ok er h q
  obtain ⟨as, e1, h⟩ := Ar h
  obtain ⟨o, ho, rfl⟩ := AJQ h
  refine ha O σ H ρ as _ ok er e1 fun vs H1 s1 r1 => ?_
  intro x dx hx hdx ne
  rw [List.append_nil]
  have ok1 := ok.mono s1
  have nx : x ∉ O := ok1.fresh hx
  have sA : Ao H1 (upd (upd H1 dx (.own x)) x (.ins C dx [])) := fun b o e => by
    rw [Bs (Ey e hx), Bs (Ey e hdx)]
    exact e
  have sh : Ao (Ah O H1) (Ah (x :: O) (upd (upd H1 dx (.own x)) x (.ins C dx []))) := fun b o e => by
    obtain ⟨n1, e⟩ := Iw e
    have nb : b ≠ x := Ey e hx
    rw [Cm (by simp [nb, n1])]
    exact sA b o e
  refine ⟨x, vs, O, ([], []), as, (.none, o), rfl, by rw [List.length_cons, r1.length]; exact hf _ _ _ _ (ho x), ok1.mono sA, nx, ⟨C, dx, [], kk, Dz, rfl, .nil⟩, r1.mono sh, ho x, ?_⟩
  intro v H' keep held rv
  cases rv
  refine ⟨rfl, ?_⟩
  have sB : Ao H1 H' := fun b o e => keep b o (Ey e hx) (sA b o e)
  obtain ⟨C', dx', fs, kk', hh, hks, hr⟩ := held
  refine q _ H' (s1.trans sB) (.obj kk' (by rw [Cm nx]; exact hh) (hr.mono (DY fun b hb => BZ hb)) (by rw [hks]))
theorem AFt {n k : Nat} {f : MF} {r : BW} {ta : TA} {x : Str} {ps : List Str} {p pos : Pos} {e : Expr} {es : List Expr} (kk : Pg K C) (hK : X.K = K) (mk : makesIn K C = true) (kp : keepIn K (.ref C) = true) (c : Dg X.prog X.w X.K X.mg X.base k C "__init__" ps (Js K n f)) (hf : Tt n f) (hr : CV (k + 1) X.A) (hg : Gl X x) (hm : X.mg x = some (.ref C)) (ha : JA X K (e :: es) ta r) (hdb : (x == ("__debug__" : Str)) = false := by decide) (he : starEach (e :: es) X.env = (false, eval e X.env) :: starEach es X.env := by rfl) (hpl : (backTo pos (starEach es X.env)).any (·.1) = false := by rfl) :
    JE X K (.Call (.Name x p) (e :: es) [] pos) (fB C (Js K n f) [] E0 ta) (Uv f r) := ⟨by
  subst hK
  obtain ⟨g, fd, F, me, b⟩ := c.ex
  exact AKE ⟨mk, me.at_, me.fn, kp⟩ F hr hg hm b .nil Nr ha.pe hdb he hpl, zY kk hf ha.pu⟩
end
end L2
namespace L2
open PySem PySem.Spec PyProof.Rows PySem.W
abbrev T1 := Ends → (Addr → Hp → Prop) → St → Hp → Prop
structure QC (X : Cx) (K : Frag) (mg : Str → Option Value) (c : Stmt) (t : T1) (F : Am) (G : Aq → Option Str) : Prop where
  wp : ∀ (pins : List (Addr × Obj)) (s : Shared) (σ : St) (H : Hp) (D : Ends) (R : Addr → Hp → Prop), Inv X pins σ H s → t D R σ H → wpAny (model X.prog X.w) X.A (exec c X.env) (SP X pins D) (XE X pins σ R) s
  pu : ∀ (H0 : Hp) (O0 : List Addr) (Gh : Hp) (σ : St) (H : Hp) (ρ : Aq) (o : Out) (E : Ends) (R : Addr → Hp → Prop), Cd O0 H0 → CP K H0 O0 Gh σ H ρ → F ρ = some o → aW K H0 O0 Gh E o → t E R σ H
  px : ∀ (H0 : Hp) (O0 : List Addr) (Gh : Hp) (σ : St) (H : Hp) (ρ : Aq) (x : Str) (E : Ends) (R : Addr → Hp → Prop), Cd O0 H0 → CP K H0 O0 Gh σ H ρ → G ρ = some x → (∀ H', Ao H H' → ∀ C, mg x = some (.ref C) → R C H') → t E R σ H
structure fO (K : Frag) (mg : Str → Option Value) (x1 x2 : Str) (C1 C2 : Addr) (ds : List Addr) : Prop where
  m1 : mg x1 = some (.ref C1)
  m2 : mg x2 = some (.ref C2)
  a1 : kitOne K (.ref C1) (.ref C1) = some true
  a2 : kitOne K (.ref C1) (.ref C2) = some false
  a3 : kitAny K (.ref C1) (ds.map Value.ref) = some false
  a4 : kitOne K (.ref C1) (.type "ValueError") = some true
  b1 : kitOne K (.ref C2) (.ref C1) = some false
  b2 : kitOne K (.ref C2) (.ref C2) = some true
  b3 : kitAny K (.ref C2) (ds.map Value.ref) = some false
  b4 : kitOne K (.ref C2) (.type "ValueError") = some true
  dl : ds.length ≤ 1000
def kJ (x1 x2 x : Str) : Option (List D) := if x = x1 then some [.bool true, .bool false, .bool false, .bool true] else if x = x2 then some [.bool false, .bool true, .bool false, .bool true] else none
def Oq (iK j : Nat) (x1 x2 : Str) (F : Am) (G : Aq → Option Str) : Am := fun ρ => if Vx ρ[j]? = true ∧ iK ≠ j ∧ iK < ρ.length then
    (match F ρ with
      | some o => some o
      | none => (G ρ).bind fun x => (kJ x1 x2 x).bind fun es => some (.nx (ρ.set iK (.sh (.list es)))))
  else none
theorem ACU {iK j : Nat} {X : Cx} {K : Frag} {mg : Str → Option Value} {x1 x2 : Str} {C1 C2 : Addr} {ds : List Addr} {c : Stmt} {t : T1} {F : Am} {Gx : Aq → Option Str} (kc : fO K mg x1 x2 C1 C2 ds) (h1 : QC X K mg c t F Gx) :
    KQ K (b8 t j [C1, C2] (Td K iK j C1 C2 ds)) (Oq iK j x1 x2 F Gx) := by
  intro H0 O0 G σ H ρ o E ok st hf q
  unfold Oq at hf
  by_cases hcc : Vx ρ[j]? = true ∧ iK ≠ j ∧ iK < ρ.length
  case neg => rw [if_neg hcc] at hf; cases hf
  rw [if_pos hcc] at hf
  obtain ⟨hj', hne, hik⟩ := hcc
  have hj := AGo hj'
  cases hF : F ρ with
  | some o1 =>
    rw [hF] at hf
    cases hf
    exact h1.pu H0 O0 G σ H ρ o E _ ok st hF q
  | none =>
    rw [hF] at hf
    obtain ⟨x, ex, hf⟩ := Ar hf
    obtain ⟨es, ek, hf⟩ := Ar hf
    cases hf
    refine h1.px H0 O0 G σ H ρ x E _ ok st ex fun H4 s4 C hC => ?_
    obtain ⟨O, s0, nn, nd, g, sl⟩ := (st.grow s4).ex
    have okA := Jj ok s0 sl
    have hlen := sl.len
    have hjl : j < ρ.length := (List.getElem?_eq_some_iff.mp hj).1
    have key : ∀ (r1 r2 : Bool) (a : Addr), kitOne K (.ref C) (.ref C1) = some r1 → kitOne K (.ref C) (.ref C2) = some r2 → kitAny K (.ref C) (ds.map Value.ref) = some false → kitOne K (.ref C) (.type "ValueError") = some true → es = [.bool r1, .bool r2, .bool false, .bool true] → H4 a = none →
        Td K iK j C1 C2 ds C (UL j E) (σ.set j (some (.ref a))) (upd H4 a (.ext (JD a C))) := fun r1 r2 a k1 k2 k3 k4 he ha => by
      have sa : Ao H4 (upd H4 a (.ext (JD a C))) := Ao.new ha
      refine AHX k1 k2 k3 k4 kc.dl hne (List.getElem?_set_self (by rw [hlen]; exact hjl)) (by rw [List.length_set, hlen]; exact hik) Dz fun p H' s' hp hH' => ?_
      have V1 : Ao H4 H' := sa.trans s'
      have hpn : H4 p = none := sa.free hp
      have na : p ∉ O0 ++ O := okA.fresh hpn
      have rp : Rep K (Ah (O0 ++ ([] ++ O)) H') (.ref p) (.list es) := by
        subst he
        exact .lst (Bl.of (by rw [List.nil_append, Cm na]; exact hH')) (.cons (.bl r1) (.cons (.bl r2) (.cons (.bl false) (.cons (.bl true) .nil))))
      have sv : Ge K H0 O0 G (σ.set j (some (.ref a))) H' ρ (.ref p) (.sh (.list es)) :=
        ⟨O, [], s0.trans V1, nn, nd, g.trans (Eg V1), (sl.mono (Eg V1) fun a _ o e => V1 a o e).Ys hj, rfl, rp⟩
      exact q _ H' ((sv.set iK).Ys (by rw [List.getElem?_set_ne hne]; exact hj))
    unfold kJ at ek
    split at ek
    · rename_i hx
      subst hx
      cases ek
      have e := hC.symm.trans kc.m1
      cases e
      exact ⟨.head _, fun a ha => key true false a kc.a1 kc.a2 kc.a3 kc.a4 rfl ha⟩
    · split at ek
      · rename_i hx
        subst hx
        cases ek
        have e := hC.symm.trans kc.m2
        cases e
        exact ⟨.tail _ (.head _), fun a ha => key false true a kc.b1 kc.b2 kc.b3 kc.b4 rfl ha⟩
      · cases ek
theorem AIz (iK j : Nat) {X : Cx} {K : Frag} {mg : Str → Option Value} {x1 x2 x nm : Str} {C1 C2 Dc : Addr} {ds : List Addr} {c : Stmt} {t : T1} {F : Am} {Gx : Aq → Option Str} {np hpos pos : Pos} {b₀ : Stmt} {Jw : List Stmt} (kc : fO K mg x1 x2 C1 C2 ds) (Qo : X.stack = X.env :: X.outer) (hfm : X.env.frame = some X.env.locals) (hN : X.N.Nodup) (hi : X.N[j]? = some nm) (hl : X.env.kindOf nm = some .local) (hg : Gl X x) (hm : X.mg x = some (.ref Dc)) (hD : excIn X.K Dc Hr "ValueError.__new__" = true) (hsub : ∀ C ∈ [C1, C2], mroIn X.K C (.ref Dc) = some true) (h1 : QC X K mg c t F Gx) (hb : ∀ (a C : Addr), C ∈ [C1, C2] → Ez (X.Nu a fun _ _ => False) (b₀ :: Jw) (Td K iK j C1 C2 ds C)) (hd : (x == ("__debug__" : Str)) = false := by decide) (hf : X.fn nm = true ∨ X.env.scope.names.lookup nm = some .local := by first | exact .inl rfl | exact .inr rfl | assumption) :
    JS X K (.Try [c] [.ExceptHandler (some (.Name x np)) (some nm) (b₀ :: Jw) hpos] [] [] pos) (b8 t j [C1, C2] (Td K iK j C1 C2 ds)) (Oq iK j x1 x2 F Gx) :=
  ⟨AGe Qo hfm hN hi hl hg hm hD hsub h1.wp hb hd hf, ACU kc h1⟩
structure AKf (P : Program) (w : World) (K : Frag) (mg : Str → Option Value) (base : Heap) (k : Nat) (C : Addr) (m : Str) (ps : List Str) (sp : Sp) : Prop where
  ex : ∃ (f : Addr) (fd : FuncData), Ei P w K mg base (Fe P w) k f fd ps sp ∧ Meth K C m f ∧ Binds K fd ps []
section
variable {X : Cx} {K : Frag} {C : Addr} {k : Nat} {x : Str} {ps : List Str} {sp spx : Sp} {e : Expr} {es : List Expr} {t : TA} {p pos epos : Pos}
def AIM : D := .dict (Dq [] [])
noncomputable def ABV (f : MF) (r : BW) : Am := fun ρ => (Uv f r (masked ρ)).bind fun _ => some (.nx ρ)
def ADj (g : List D → Option Str) (r : BW) : Aq → Option Str := fun ρ => (r (masked ρ)).bind fun as => g (AIM :: as)
end
end L2
namespace L2
open PySem PySem.Spec PyProof.Rows
def clsAt : Stmt → Nat → Stmt
  | .ClassDef _ _ _ body _ _ _ _ _ _ _, j => body.getD j (.Pass ⟨0, 0, 0, 0⟩)
  | s, _ => s
def XX (f : Fl) : Aq → Option Sl := fun ρ => (f (full ρ)).bind fun dss => if dss.all GJ = true then some (.sh (.list (dss.map .list))) else none
section
variable {X : Cx} {K : Frag}
theorem lZ {O0 O : List Addr} {H : Hp} (h : ∀ a ∈ O, ∃ o, H a = some o ∧ Vg o = true) : ∀ {ps : List Addr} {dss : List (List D)}, Inner K (Ah O0 H) H ps dss → dss.all GJ = true → (∀ b ∈ ps, b ∉ O0 ++ O) → BP K (Ah (O0 ++ O) H) (ps.map V.ref) (dss.map .list)
  | _, _, .nil, _, _ => .nil
  | p :: ps, ds :: dss, .cons e r t, f, n => by
    have f' := Bool.and_eq_true_iff.mp (show (GJ ds && dss.all GJ) = true from f)
    exact .cons (.lst (Bl.of (by rw [Cm (n p CW)]; exact e)) (Yp h r f'.1)) (lZ h t f'.2 fun b hb => n b (BZ hb))
theorem ADU {te : TE} {fl : Fl} (h : Rg K te fl) : Hh K te (XX fl) := by
  intro H0 O0 G σ H ρ s Q ok t hf q
  obtain ⟨dss, e1, hf⟩ := Ar hf
  by_cases hc : dss.all GJ = true
  case neg => rw [if_neg hc] at hf; cases hf
  rw [if_pos hc] at hf
  cases hf
  have ⟨o1, er⟩ := t.HR ok
  refine h O0 σ H (full ρ) dss _ o1 er e1 fun a ps H' s' nd hn ha inn => ?_
  obtain ⟨O, s0, n, ndO, g, sl⟩ := t.ex
  have okA := Jj ok s0 sl
  have nn : ∀ b ∈ a :: ps, b ∉ O0 ++ O := fun b hb => okA.fresh (hn b hb)
  have sl' := sl.mono (Eg s' : Ao (Ah (O0 ++ O) H) (Ah (O0 ++ O) H')) fun a _ o e => s' a o e
  refine q _ H' s' ⟨O, [], s0.trans s', n, ndO, (by rw [List.nil_append]; exact g.trans (Eg s')), (by rw [List.nil_append]; exact sl'), rfl, ?_⟩
  rw [List.nil_append]
  exact .lst (Bl.of (by rw [Cm (nn a CW)]; exact ha)) (lZ (fun b hb => sl'.mem b hb) (inn.mono (DY fun b hb => By hb) fun _ _ _ e => e) hc fun b hb => nn b (BZ hb))
theorem YF (i : Nat) {o value : Expr} {f : Str} {pos pos' : Pos} {tv : TE} {fv : PF} (hK : X.K = K) (hn : JB K f) (ho : PE X o (Eh i)) (hv : JE X K value tv fv) (hs : swapsWith value (some (.Attribute o f pos')) pos.line X.env = pure false := by rfl) :
    JS X K (.Assign [.Attribute o f pos'] value pos) (Rw K (Eh i) tv f) (IW i f (vS fv)) := fD i hK hn ho hv.pe (PX hv.pu) hs
theorem zK (i : Nat) {o value : Expr} {f : Str} {pos pos' : Pos} {tv : TE} {fv : PF} (hK : X.K = K) (hn : JB K f) (ho : PE X o (Eh i)) (hv : JE X K value tv fv) (hs : swapsWith value (some (.Attribute o f pos')) pos.line X.env = pure false := by rfl) :
    JS X K (.Assign [.Attribute o f pos'] value pos) (Rw K (Eh i) tv f) (IW i f (vF fv)) := fD i hK hn ho hv.pe (AJS hv.pu) hs
theorem AJA (i : Nat) {o value : Expr} {f : Str} {pos pos' : Pos} {tv : TE} {fv : Fl} (hK : X.K = K) (hn : JB K f) (ho : PE X o (Eh i)) (hv : JN X K value tv fv) (hs : swapsWith value (some (.Attribute o f pos')) pos.line X.env = pure false := by rfl) :
    JS X K (.Assign [.Attribute o f pos'] value pos) (Rw K (Eh i) tv f) (IW i f (XX fv)) := fD i hK hn ho hv.pe (ADU hv.pu) hs
theorem AI4 {C f : Addr} {x qual : Str} {st : Stmt} {ps : List Str} {oc : Value} {od an : Option Addr} {osl : Array (Option Value)} {kV doc pm cdv ct : Value} (hb : ∀ (kV doc pm : Value) (an : Option Addr) (cdv ct : Value) (us : List Value), us.length = ps.length → bindArgs (fnOf x qual (Fx st) (Df st) (BL st) .none kV doc pm an cdv ct) ⟨us, []⟩ = pure (ps.zip us)) (a : findIn K (.ref C) x = some (some (.ref f))) (fn : PySem.W.isFn K (.ref f) = true) (l : K.lookup f = some ⟨oc, od, .func (fnOf x qual (Fx st) (Df st) (BL st) .none kV doc pm an cdv ct), osl⟩) (c : codeIn K cdv qual = true) (k : keepIn K (.ref f) = true) : Cz K C x qual st ps := by
  have F := vV (st := st) l c k
  exact ⟨f, _, ⟨⟨_, _, _, _, _, _, _, _, _, _, rfl, l, c⟩, k⟩, ⟨a, fn, k⟩, F.binds hb⟩
theorem QB {C : Addr} {f : Str} (hC : nsIn K mainGlobals "Keeper" = some (some (.ref C))) (h : findIn K (.ref C) f = some none) : JB K f := fun C' k => by
  cases Za hC k
  exact h
end
end L2
namespace L2
open PySem PySem.Spec PyProof.Rows
def u9 : Sl → Option (List D)
  | .ow ds => some ds
  | _ => none
def Vd (i : Nat) (fi : PF) (vf : Aq → Option Sl) : Am := fun ρ => (vf ρ).bind fun s => (u9 s).bind fun ds => (fi (full ρ)).bind fun kd => (Ij kd).bind fun k => (ρ[i]?).bind fun s' => (KN s').bind fun dss => (GR dss.length k).bind fun u => some (.nx (ρ.set i (.on (dss.set u ds))))
def tW (i : Nat) (fi : PF) (f : PF) : Am := fun ρ => (fi (full ρ)).bind fun kd => (Ij kd).bind fun k => (ρ[i]?).bind fun s => (KN s).bind fun dss => (GR dss.length k).bind fun u => (dss[u]?).bind fun ds => (f (masked ρ)).bind fun d => if fits ds.length = true then some (.nx (ρ.set i (.on (dss.set u (ds ++ [d]))))) else none
def qH (i : Nat) (fi : PF) : Am := fun ρ => (fi (full ρ)).bind fun kd => (Ij kd).bind fun k => (ρ[i]?).bind fun s => (KN s).bind fun dss => (GR dss.length k).bind fun u => (dss[u]?).bind fun ds => if ds = [] then none else some (.nx (ρ.set i (.on (dss.set u ds.dropLast))))
section
variable {X : Cx} {K : Frag} {pos : Pos}
def sU (f : Fl) (fi : PF) : BW := fun ρ => (f ρ).bind fun dss => (fi ρ).bind fun kd => (Ij kd).bind fun k => (GR dss.length k).bind fun u => dss[u]?
end
theorem AFJ (a : Addr) (ks : List Str) (ds : List D) : Sl.view (.tr a (.obj ks ds)) = some (.dict (Dq ks ds)) := rfl
theorem ABQ (a : Addr) (c : Cn) : Sl.mask (.tr a c) = none := rfl
theorem Z1 (a : Addr) (ks : List Str) (ds : List D) : Nf (.tr a (.obj ks ds)) = some (a, ks, ds) := rfl
theorem AHB (ds : List D) : u9 (.ow ds) = some ds := rfl
end L2
namespace LL
open PySem L2
def pc (s : List Thing) (k a b : Nat) : Nat := (((Et k s).map (·.1)).filter fun p => decide (a ≤ p) && decide (p < b)).length
end LL
namespace LL
open PySem L2
end LL
namespace LL
open PySem L2
end LL
namespace S27
open PySem L2 LL S22
def gO : Am := (Al (Bq (Ft (Ff (Ax (Je Ih Ih (Ad (.int 0)) (Aa 0) (Ad (.int 4))))) (Ff (Ax (Je Ih Ih (Ad (.int 1)) (Aa 1) (Ad (.int 20))))))
      (Bh (Ad (.bool false))) CQ)
    (Bh (Gp (Ac Mz (Aa 2) (Ad (.int 1))) (Ac Mz (Aa 1) (Ac DR (Aa 2) (Ac Ck (Aa 0) (Ad (.int 2))))))))
def Hd : List D → Option D := Ba 3 3 gO
def Um : Am := (Al (Bq (Ft (Ff (Ax (Jx "tuple" (Aa 0)))) (Ax (Ac Bu (Ai CN (Ab (Aa 0) Ae)) (Ad (.int 3)))))
      (Bh (Ad (.bool false))) CQ)
    (Al (Bq (Ff (Ax (Ai Lz (Ab (Aw (CT (O3 (Aa 0)) (Ca 0) Cu (Ai Ip (Ab (Aa 0) Ae)) 1 [])) Ae))))
      (Bh (Ad (.bool false))) CQ)
    (Bh (Ai Hd (Ab (Ac Av (Aa 0) (Ad (.int 0))) (Ab (Ac Av (Aa 0) (Ad (.int 1))) (Ab (Ac Av (Aa 0) (Ad (.int 2))) Ae)))))))
def Ku : List D → Option D := Ba 1 1 Um
def fJ : Am := (Al (Ay 2 (vS (Ai J6 (Ab (Aw (BX Eb (Ab (Aa 0) (Ab (Aa 1) Ae)))) Ae)))) (Al (Bq (Ax (Ac J7 (Aa 2) (Ad .none)))
      (Dr (Bm Ae)) CQ)
    (Dr (BX Ln (Ab (Ai Ik (Ab (Aa 1) Ae)) (Ab (Aw (Bm (Ab (Be (Ab (Aa 2) (Ab (Be Ae) Ae))) Ae))) Ae))))))
def R0 : List D → Option (List D) := Ci 2 3 fJ
def jW : Am := (Dr (BX Eb (Ab (Dj (Aa 0) "bounds") (Ab (Dj (Aa 0) "lying") Ae))))
def Kl : List D → Option (List D) := Ci 1 1 jW
def bK : Am := (Bh (Ai QR (Ab (Dj (Aa 0) "bounds") (Ab (Ai Fy (Ab (Dj (Aa 0) "lying") Ae)) (Ab (Aw (Hu "shelf" Kl (Aa 0) Ae)) Ae)))))
def Lx : List D → Option D := Ba 1 1 bK
def jR : Am := (Bh (Ai RV (Ab (Dj (Aa 0) "bounds") (Ab (Ai Fy (Ab (Dj (Aa 0) "lying") Ae)) (Ab (Aw (Hu "shelf" Kl (Aa 0) Ae)) Ae)))))
def Ls : List D → Option D := Ba 1 1 jR
def Ro : Am := (Al (IW 0 "lying" (XX (NT HH (Ab (Aa 1) (Ab (Aw (BX R0 (Ab (Dj (Aa 0) "bounds") (Ab (Aa 1) Ae)))) Ae))))) (Al (IW 0 "puts" (vS (Ad (.int 0)))) (Al (IW 0 "moves" (vS (Ad (.int 0)))) (Al (IW 0 "laid" (vS (Ad (.int 0)))) (Al (IW 0 "first_excess" (vF (Hu "excess" Lx (Aa 0) Ae))) (IW 0 "first_over" (vF (Hu "over" Ls (Aa 0) Ae))))))))
def QD : MF := runM 2 2 Ro
def T5 : Am := (Al (Bq (Ff (Ax (Ai Ku (Ab (Aa 1) Ae))))
      FN CQ)
    (Al (Bq (Ff (Ax (Ai Ke (Ab (Aa 1) (Ab (Aa 2) Ae)))))
      FN CQ)
    (Al (IW 0 "bounds" (vS (Aa 1)))
    (fG (V8 0 "come_up" QD (Ab (Aa 2) Ae))))))
def Kp : MF := runM 3 3 T5
def AKW : En := (Gr (Bq (Ff (Ax (Ai Ku (Ab (Aa 1) Ae))))
      FN CQ) (HY (Ff (Ax (Ai Ku (Ab (Aa 1) Ae)))) (Ve "BadBounds") G4)
    (Gr (Bq (Ff (Ax (Ai Ke (Ab (Aa 1) (Ab (Aa 2) Ae)))))
      FN CQ) (HY (Ff (Ax (Ai Ke (Ab (Aa 1) (Ab (Aa 2) Ae))))) (Ve "BadDisk") G4)
    G4))
def AHZ : List D → Option Str := Im 3 3 AKW
def ZP : Am := (Dr (BX Ml (Ab (Aw (Hu "shelf" Kl (Aa 0) Ae)) Ae)))
def QZ : List D → Option (List D) := Ci 1 1 ZP
def ABU : Am := (Al (ZD (Sy 2 3 4) (vS (Aa 0))) (Al (Ay 5 (vS (Aw (Bm (Ab (Ad .none) (Ab (Aw (Bm (Ab (Aa 2) (Ab (Aa 3) (Ab (Aa 4) Ae))))) (Ab (Be (Ab (Aa 2) (Ab (Aa 3) Ae))) (Ab (Be (Ab (Ad (.int 5)) (Ab (Aa 3) (Ab (Aa 4) Ae)))) (Ab (Be (Ab (Ma M9 (Ad (.int 1))) (Ab (Aa 3) (Ab (Aa 4) Ae)))) (Ab (Be (Ab (Aa 2) (Ab (Ad (.int 21)) (Ab (Aa 4) Ae)))) Ae)))))))))) (Al (Ay 5 (vS (Aw (GF (Aa 5) (Aw (Bm (Ab (Be (Ab (Aa 2) (Ab (Ac Ed (Ac DR (Aa 4) (Ac Ck (Aa 2) (Ad (.int 2)))) (Ad (.int 1))) (Ab (Aa 4) Ae)))) (Ab (Be (Ab (Aa 2) (Ab (Aa 3) (Ab (Ad (.int 0)) Ae)))) (Ab (Be (Ab (Ad (.bool true)) (Ab (Aa 3) (Ab (Aa 4) Ae)))) (Ab (Be (Ab (Aa 2) (Ab (Ad (.str "6")) (Ab (Aa 4) Ae)))) Ae)))))))))) (Bh (Ac Av (Aa 5) (Ac BV (Aa 1) (Ad (.int 10))))))))
def AEh : List D → Option D := Ba 2 6 ABU
def AJe : Am := (Al (Ay 3 (vN (P0 (DX (Aa 1)) (Ca 0) Cu (BX Il (Ab (Aa 0) Ae)) 1 []))) (Al (Ay 4 (vS (Ac BV (Aa 2) (Ad (.int 10))))) (Al (ZD (Fo 5 6) (vS (Ac Av (Ac Av (Aa 1) (Ad (.int 2))) (Ad (.int 0))))) (Al (Ay 7 (vS (Ac DR (Ai Jz (Ab (Aa 6) Ae)) (Ac Av (Aa 0) (Ad (.int 1)))))) (Al (Bq (Ax (Ac Bj (Aa 4) (Ad (.int 0))))
      (Bh (Ac Av (Aw (Bm (Ab (Ad .none) (Ab (Ai ACs (Ab (Aa 3) Ae)) (Ab (Aw (Gz (Aa 3) Iu (Fj (Ad (.int 2))))) (Ab (Aw (Bm Ae)) Ae)))))) (Ac BV (Ac CJ (Aa 2) (Ad (.int 8))) (Ad (.int 4))))) CQ)
    (Al (Bq (Ax (Ac Bj (Aa 4) (Ad (.int 1))))
      (Vd 3 (Ad (.int 2)) (vL (sU (gY (QW (Bm (Ab (Be (Ab (Ad (.int 2)) (Ab (Ad (.int 0)) Ae))) Ae)) (QW (Bm (Ab (Be (Ab (Ad (.int 0)) (Ab (Ac Ck (Ac Av (Aa 0) (Ad (.int 0))) (Ad (.int 1))) Ae))) Ae)) (QW (Bm (Ab (Be (Ab (Ad (.int 0)) (Ab (Ad (.int 0)) Ae))) (Ab (Be (Ab (Ad (.int 0)) (Ab (Ad (.int 0)) Ae))) Ae))) (QW (Bm (Ab (Ad .none) Ae)) f9))))) (Ac BV (Ac CJ (Aa 2) (Ad (.int 8))) (Ad (.int 4)))))) CQ)
    (Al (Bq (Ax (Ac Bj (Aa 4) (Ad (.int 2))))
      (tW 3 (Ac BV (Ac CJ (Aa 2) (Ad (.int 8))) (Ad (.int 2))) (Be Ae)) CQ)
    (Al (Bq (Ax (Ac Bj (Aa 4) (Ad (.int 3))))
      (qH 3 (Ac BV (Ac CJ (Aa 2) (Ad (.int 8))) (Ad (.int 2)))) CQ)
    (Al (Bq (Ft (Ax (Ac Bj (Aa 4) (Ad (.int 4)))) (Ft (GX (Ax (Ac Bj (Aa 4) (Ad (.int 8)))) (Ax (Ac Ha (Aa 7) (Ad (.int 4))))) (GX (Ax (Ac Bj (Aa 4) (Ad (.int 9)))) (Ax (Ac Bj (Aa 6) (Ad (.int 0)))))))
      (Vd 3 (Aa 5) (R4 (GF (Aw (Bm (Ab (Be (Ab (Ad (.int 5)) (Ab (Ad (.int 1)) Ae))) (Ab (Be (Ab (Ad (.int 4)) (Ab (Ad (.int 1)) Ae))) Ae)))) (Aw (Gz (Ac Av (Aa 3) (Aa 5)) (Fj (Ad (.int 2))) Iu)))))
      (Bq (Ax (Ac Bj (Aa 4) (Ad (.int 8))))
        (Vd 3 (Aa 5) (R4 (GF (Aw (Bm (Ab (Be (Ab (Ad (.int 4)) (Ab (Ad (.int 1)) Ae))) (Ab (Be (Ab (Ad (.int 4)) (Ab (Ad (.int 1)) Ae))) (Ab (Be (Ab (Ad (.int 5)) (Ab (Ad (.int 1)) Ae))) (Ab (Be (Ab (Ad (.int 5)) (Ab (Ad (.int 1)) Ae))) Ae)))))) (Aw (Gz (Ac Av (Aa 3) (Aa 5)) (Fj (Ad (.int 4))) Iu)))))
        (Bq (Ax (Ac Bj (Aa 4) (Ad (.int 9))))
          (Vd 3 (Aa 5) (R4 (GF (Aw (BX M5 (Ab (Aa 0) (Ab (Aa 6) (Ab (Aa 2) (Ab (Ac Ck (Ai Mq (Ab (Aa 0) (Ab (Aa 6) Ae))) (Ad (.int 1))) Ae)))))) (Aw (Gz (Ac Av (Aa 3) (Aa 5)) (Fj (Aa 7)) Iu)))))
          (Bq (Ax (Ac G3 (Aa 4) (Ad (.int 4))))
            (Al (Ay 8 (vS (Ac BV (Ac CJ (Aa 2) (Ad (.int 8))) (Ad (.int 2)))))
            (Qy 3 (Aa 8) (Ac BV (Ac CJ (Aa 2) (Ad (.int 16))) (Ai CN (Ab (Ac Av (Aa 3) (Aa 8)) Ae))) (vS (Ac Av (Aw (Bm (Ab (Ad .none) (Ab (Be (Ab (Ad (.int 1)) (Ab (Ad (.int 2)) (Ab (Ad (.int 3)) Ae)))) (Ab (Aw (Bm (Ab (Ad (.int 1)) (Ab (Ad (.int 2)) Ae)))) Ae))))) (Ac Ed (Aa 4) (Ad (.int 5))))))) CQ))))
    (Bh (Aa 3)))))))))))
def AGs : List D → Option D := Ba 3 9 AJe
noncomputable def R8 : Am := (Al (Ay 2 (vS (Aw (Bm Ae))))
    (Al (Oq 2 3 "BadBounds" "BadDisk" (ABV Kp (Ab (Aa 0) (Ab (Aa 1) Ae))) (ADj AHZ (Ab (Aa 0) (Ab (Aa 1) Ae))))
    (Bh (Aa 2))))
noncomputable def Fp : List D → Option D := Ba 2 4 R8
noncomputable def MK : Am := (Al (Ay 3 (vS (Ac BV (Ac CJ (Aa 2) (Ad (.int 3))) (Ac Ck (Ac Av (Aa 1) (Ad (.int 0))) (Ad (.int 1))))))
      (Al (Ay 4 (vS (Aw (BX M5 (Ab (Aa 1) (Ab (Aa 3) (Ab (Aa 2) (Ab (Ac Ed (Ai Mq (Ab (Aa 1) (Ab (Aa 3) Ae))) (Ac BV (Ac CJ (Aa 2) (Ad (.int 15))) (Ad (.int 3)))) Ae))))))))
      (Al (Ay 5 (Gv (CT (DX (Aa 4)) (Ca 0) (Ax (Ac Bu (Aa 0) (Be Ae))) (Aa 0) 1 [])))
      (Al (Bq (Ax (Ac Bj (Ac BV (Ac CJ (Aa 2) (Ad (.int 45))) (Ad (.int 2))) (Ad (.int 1))))
        (Ay 4 (vS (Aw (BX AEo (Ab (Aa 4) (Ab (Ac CJ (Aa 2) (Ad (.int 90))) Ae)))))) CQ)
      (Al (Ay 6 (vS (Aw (BX K7 (Ab (Aa 1) (Ab (Aa 3) (Ab (Ac BV (Ac CJ (Aa 2) (Ad (.int 7))) (Ad (.int 2))) (Ab (Aa 4) (Ab (Aa 2) Ae)))))))))
      (Al (Ay 7 (Gv (CT (DX (Aa 6)) (Ca 0) Cu (Aw (BX Il (Ab (Aa 0) Ae))) 1 [])))
      (Al (Ay 8 (vS (Uv Kp (Ab (Aa 1) (Ab (Aa 7) Ae)))))
      (Al (Bq (Ft (Ax (Ac Bu (Aw (Hu "rows" QZ (Aa 8) Ae)) (Aa 5))) (Ax (Ac Bu (Aa 7) (Aa 6))))
        (Bh (Ad (.bool false))) CQ)
      (Al (Ay 9 (vS (Ai AGs (Ab (Aa 1) (Ab (Aa 6) (Ab (Ac CJ (Aa 2) (Ad (.int 11))) Ae))))))
      (Al (Ay 10 (vS (Ai AEh (Ab (Aa 1) (Ab (Ac CJ (Aa 2) (Ad (.int 13))) Ae)))))
      (Al (Bq (Ft (Ax (Ac Bu (Ai Fp (Ab (Aa 10) (Ab (Aa 6) Ae))) (Aw (Bm (Ab (Ad (.bool true)) (Ab (Ad (.bool false)) (Ab (Ad (.bool false)) (Ab (Ad (.bool true)) Ae)))))))) (Ax (Ac Bu (Ai Fp (Ab (Aa 10) (Ab (Aa 9) Ae))) (Aw (Bm (Ab (Ad (.bool true)) (Ab (Ad (.bool false)) (Ab (Ad (.bool false)) (Ab (Ad (.bool true)) Ae)))))))))
        (Bh (Ad (.bool false))) CQ)
      (Bq (Ft (Ax (Ac Bu (Ai Fp (Ab (Aa 1) (Ab (Aa 9) Ae))) (Aw (Bm (Ab (Ad (.bool false)) (Ab (Ad (.bool true)) (Ab (Ad (.bool false)) (Ab (Ad (.bool true)) Ae)))))))) (Ax (Ac Bu (Ai Fp (Ab (Aa 1) (Ab (Aa 6) Ae))) (Aw (Bm Ae)))))
        (Bh (Ad (.bool false))) CQ))))))))))))
noncomputable def VG : Am := (Al (Ay 1 (vS (Ai PN (Ab (Ai Nj (Ab (Aa 0) (Ab (Ad (.int 0)) Ae))) Ae))))
    (Al (Hk (DX (Aw (CT (DX (Aw (GF (Aw (Bm (Ab (Ad (.int 0)) Ae))) (Aw (Gz (Aa 0) (Fj (Ad (.int 1))) (Fj (Ad (.int 11)))))))) (Ca 0) Cu (Ai J5 (Ab (Aa 0) Ae)) 1 []))) (J3 2) MK)
    (Bh (Ad (.bool true)))))
noncomputable def Qa : List D → Option D := Ba 1 11 VG
end S27
namespace L2
open PySem PySem.Spec PyProof.Rows PySem.W
section
variable {P : Program} {w : World} {K : Frag} {mg : Str → Option Value} {base : Heap} {N : List Str} {qual : Str} {AJ8 : Scope} {f : Addr} {cd : Value} {A : Around} {outer : List Env} {s : Shared} {H : Hp} {E : XK}
  {N' : List Str} {scope : Scope} {cl : List (Str × Addr)} {fp : List Addr} {pins : List (Addr × Obj)} {s3 : Shared} {H3 : Hp} {σ : St}
end
end L2
namespace L2
open PySem PySem.Spec PyProof.Rows
def AAr (K : Frag) (R : Str → Hp → Prop) (t : TA) (g : Fg) : Prop := ∀ (O : List Addr) (σ : St) (H : Hp) (ρ : Bf) (C : Str) (Q : List V → Hp → Prop), Cd O H → Dm K (Ah O H) σ ρ → g ρ = some C → (∀ H', Ao H H' → R C H') → t σ H Q
structure WY (X : Cx) (K : Frag) (R : Str → Hp → Prop) (es : List Expr) (t : TA) (r : BW) (g : Fg) : Prop where
  pe : PA X es t
  pu : T4 K t r
  px : AAr K R t g
def YH : Fg := fun _ => none
def QG (f : PF) (g g' : Fg) : Fg := fun ρ => match g ρ with
  | some C => some C
  | none => (f ρ).bind fun _ => g' ρ
section
variable {X : Cx} {K : Frag} {R : Str → Hp → Prop} {e a b c : Expr} {es : List Expr} {te ta tb : TE} {t : TA} {f fa fb : PF} {r : BW} {g ga gb : Fg} {tc : TT} {pc : PB} {pos : Pos}
theorem AGw (h : JE X K e te f) : Pn X K R e te f YH := ⟨h.pe, h.pu, by
  intro O σ H ρ C Q ok er hf q
  cases hf⟩
theorem Kf.AEO {f : BW} (h : Kf X K R e te f g) : Pn X K R e te (Aw f) g := ⟨h.pe, (JL.je ⟨h.pe, h.pu⟩).pu, h.px⟩
theorem ADs : WY X K R [] Gy Ae YH := ⟨(Aj (X := X) (K := K)).pe, (Aj (X := X) (K := K)).pu, by
  intro O σ H ρ C Q ok er hf q
  cases hf⟩
theorem pC (h : Pn X K R e te f g) (h2 : WY X K R es t r ga) (hs : starEach (e :: es) X.env = (false, eval e X.env) :: starEach es X.env := by rfl) : WY X K R (e :: es) (GQ te t) (Ab f r) (QG f g ga) :=
  ⟨Ek h.pe h2.pe hs, (Ag ⟨h.pe, h.pu⟩ ⟨h2.pe, h2.pu⟩ hs).pu, by
  intro O σ H ρ C Q ok er hf q
  unfold QG at hf
  cases hg : g ρ with
  | some C' =>
    rw [hg] at hf
    cases hf
    exact h.px O σ H ρ C _ ok er hg q
  | none =>
    rw [hg] at hf
    obtain ⟨x, e1, hf⟩ := Ar hf
    exact h.pu O σ H ρ x _ ok er e1 fun v H1 s1 r1 => h2.px O σ H1 ρ C _ (ok.mono s1) (er.Ah s1) hf fun H' s' => q H' (s1.trans s')⟩
end
section
variable {P : Program} {w : World} {K : Frag} {mg : Str → Option Value} {base : Heap} {N : List Str} {qual : Str} {AJ8 : Scope} {f : Addr} {cd : Value} {A : Around} {outer : List Env} {s : Shared} {H : Hp} {E : XK}
  {k n : Nat} {x : Str} {ps : List Str} {tg e iter : Expr} {es : List Expr} {t : TA} {r : BW} {p cpos pos : Pos} {g : List D → Option Str} {fl : List D → Option D} {ifs : List Expr} {scope : Scope} {wi : TI} {gt : TG} {tc : TT} {fi : BW} {bd : D → Bf → Option Bf} {pt : PB}
end
end L2
namespace L2
open PySem PySem.Spec PyProof.Rows PySem.W
section
variable {P : Program} {w : World} {K : Frag} {mg : Str → Option Value} {base : Heap} {X : Cx} {R : Str → Hp → Prop}
theorem cM {sts : List Stmt} : Gu X K sts Ue FN := ⟨lM, by
  intro H0 O0 G σ H ρ o E ok s hf q
  cases hf⟩
theorem XQ {sts : List Stmt} : K6 X K R sts Ue FN G4 := ⟨lM, (cM (X := X) (sts := sts)).pu, by
  intro H0 O0 Gh σ H ρ C E ok s hf q
  cases hf⟩
def Nm : List D → Option (List D) := fun _ => none
theorem Yb (n : Nat) : Ht n Nm := fun _ _ h => by cases h
theorem Def.never {x : Str} {st : Stmt} {ps : List Str} (D : Def K mg x st ps) (k n : Nat) : Callee P w K mg base k x ps (Bw K n Nm) := by
  obtain ⟨f, fd, Fu, m, b, _⟩ := D.ex
  obtain ⟨oc, od, kV, doc, pm, an, cdv, ct, osl, rfl, lk, hcd⟩ := Fu.ex
  have no : ∀ vs H Q E, ¬ Bw K n Nm vs H Q E := fun vs H Q E h => by
    obtain ⟨_, _, _, _, _, _, h, _⟩ := h
    cases h
  exact ⟨f, _, ⟨fun vs H Q E h => (no vs H Q E h).elim, fun A outer s H args us vs Q E hr he hb hv hs => (no vs H Q E hs).elim⟩, m, Fu.kp, b, _, lk, rfl⟩
end
structure JQ (K : Frag) (C : Addr) (m qual : Str) (st : Stmt) (ps : List Str) (ds : List Value) : Prop where
  ex : ∃ (f : Addr) (fd : FuncData), WR K m qual st f fd ∧ Meth K C m f ∧ Binds K fd ps ds
structure HN (P : Program) (w : World) (K : Frag) (mg : Str → Option Value) (base : Heap) (k : Nat) (C : Addr) (m : Str) (ps : List Str) (ds : List Value) (sp : Sp) : Prop where
  ex : ∃ (f : Addr) (fd : FuncData), Ei P w K mg base (Fe P w) k f fd ps sp ∧ Meth K C m f ∧ Binds K fd ps ds
section
variable {P : Program} {w : World} {K : Frag} {mg : Str → Option Value} {base : Heap} {C : Addr} {ds : List Value}
theorem HN.mono {j k : Nat} {m : Str} {ps : List Str} {sp : Sp} (c : HN P w K mg base j C m ps ds sp) (h : j ≤ k) : HN P w K mg base k C m ps ds sp := by
  obtain ⟨f, fd, F, r⟩ := c.ex
  exact ⟨f, fd, F.mono h, r⟩
theorem JQ.raises {x qual : Str} {st : Stmt} {N ps : List Str} {k n m : Nat} {G : En} {g : List D → Option Str} (hfn : g = Im n m G) (D : JQ K C x qual st ps ds) (S : Bk N ps (BL st)) (hn : ps.length = n) (hm : N.length = m) (hb : ∀ (f : Addr) (cdv : Value) (A : Around) (outer : List Env) (s : Shared) (H : Hp) (E : XK), CV k (A.deeper (envOfC qual (BL st) s.heap.objs.size f cdv)) →
      ∃ t F, K6 (Dh (Fe P w) P w K mg base N qual (BL st) f cdv A outer s H E) K (fun y H' => ∀ C, mg y = some (.ref C) → E (.ref C) none H') (Df st) t F G) : HN P w K mg base (k + 1) C x ps ds (Dy K n mg g) := by
  subst hfn hm
  obtain ⟨f, fd, Fu, me, b⟩ := D.ex
  obtain ⟨oc, od, dV, kV, doc, pm, an, cdv, ct, osl, rfl, lk, hcd⟩ := Fu.ex
  refine ⟨f, _, Wb lk hcd S (fun vs H Q E h => by rw [h.1, hn]) fun A outer s H vs Q E hr hsp => ?_, me, b⟩
  obtain ⟨t, F, j⟩ := hb f cdv A outer s H E hr
  refine ⟨t, j.pe, ?_⟩
  obtain ⟨hl, O, ds, C, ok, r, hf, q⟩ := hsp
  have hl2 : ds.length = n := by rw [← r.length]; exact hl
  unfold Im at hf
  rw [if_pos hl2] at hf
  exact j.px H O (Ah O H) _ H _ C _ ok (Nv r N) hf fun σ' H' ρ' s' => q H' s'.same
theorem AJf {f T : Addr} {x qual : Str} {st : Stmt} {ps : List Str} {oc ocT : Value} {od an odT : Option Addr} {osl slT : Array (Option Value)} {kV doc pm cdv ct : Value} {nT : Nat} (hb : ∀ (kV doc pm : Value) (an : Option Addr) (cdv ct : Value) (us : List Value), (us ++ ds).length = ps.length → ∃ kq : Option (Array Value) → Sem (List (Str × Value)), bindArgs (fnOf x qual (Fx st) (Df st) (BL st) (.ref T) kV doc pm an cdv ct) ⟨us, []⟩ = seqItems? (.ref T) >>= kq ∧ kq (some #[.none]) = pure (ps.zip (us ++ ds))) (a : findIn K (.ref C) x = some (some (.ref f))) (fn : PySem.W.isFn K (.ref f) = true) (l : K.lookup f = some ⟨oc, od, .func (fnOf x qual (Fx st) (Df st) (BL st) (.ref T) kV doc pm an cdv ct), osl⟩) (c : codeIn K cdv qual = true) (k : keepIn K (.ref f) = true) (t : K.lookup T = some ⟨ocT, odT, .seq #[.none] nT, slT⟩) : JQ K C x qual st ps ds := by
  refine ⟨f, _, ⟨⟨_, _, _, _, _, _, _, _, _, _, rfl, l, c⟩, k⟩, ⟨a, fn, k⟩, fun s us KI hl => ?_⟩
  obtain ⟨kq, h1, h2⟩ := hb kV doc pm an cdv ct us hl
  exact BindsTo.of_defaults rfl (KI _ _ t) rfl h1 h2
end
def tH (C : Addr) (m : Str) (spx : Sp) (dvs : List V) (to : TE) (t : TA) : T1 := fun _ R σ H => to σ H fun x H1 => ∃ a dx fs, x = .ref a ∧ H1 a = some (.ins C dx fs) ∧ fs.lookup m = none ∧ t σ H1 fun vs H2 => spx (x :: (vs ++ dvs)) H2 (fun _ _ => False) (yW R)
def ADg (tc : TT) (ta tb : T1) : T1 := fun D R σ H => tc σ H fun b H1 => if b = true then ta D R σ H1 else tb D R σ H1
section
variable {X : Cx} {K : Frag} {C : Addr} {k : Nat} {m : Str} {ps : List Str} {spx : Sp} {o e : Expr} {es : List Expr} {to : TE} {t : TA} {apos pos epos : Pos} {ds : List Value} {dvs : List V}
theorem ADd (ho : PE X.Ds o to) (cl : Gq X.K C) (cx : HN X.prog X.w X.K X.mg X.base k C m ps ds spx) (hd : Vals dvs ds) (hex : X.ex = []) (hr : CV k X.A) (ha : PA X.Ds (e :: es) t) {pl : Sem Bool} (hst : starEach (e :: es) X.env = (false, eval e X.env) :: starEach es X.env := by rfl) (hpl : (backTo pos (starEach es X.env)).any (·.1) = false := by rfl) (ht : eval (.Call (.Attribute o m apos) (e :: es) [] pos) X.env = (do
      let ov ← eval o X.env
      standAt apos.atName
      let (f, first) ← holding [ov] (getMethod ov m pl)
      callWith pos f first (backTo pos (starEach (e :: es) X.env)) (backToKw pos (keywordEach [] X.env))) := by rfl)
    (hs : swapsWith (.Call (.Attribute o m apos) (e :: es) [] pos) none epos.line X.env = pure false := by rfl)
    (pins : List (Addr × Obj)) (s : Shared) (σ : St) (H : Hp) (D : Ends) (R : Addr → Hp → Prop) (I : Inv X pins σ H s) (h : tH C m spx dvs to t D R σ H) :
    wpAny (model X.prog X.w) X.A (exec (.Expr (.Call (.Attribute o m apos) (e :: es) [] pos) epos) X.env) (SP X pins D) (XE X pins σ R) s := by
  obtain ⟨f, fd, F, me, b⟩ := cx.ex
  refine wpAny_Expr_any ?_ I.quiet hs
  refine PySem.W.methodCall_KW (pl := pl) (wpAny_mono (ho pins s σ H _ (I.Hl _) h) (fun u s1 q => ?_) fun _ _ z => z.elim) ht
  obtain ⟨x, H1, I1, rx, a, dx, fs, ex, ea, l, q⟩ := q
  subst ex
  obtain rfl : u = Value.ref a := rx
  refine aQ I1.Ie ea cl me l ?_
  refine PySem.W.callWith_K (first := [.ref a]) (h₀ := X.base) I.ok.mod.kin me.kp (wpAny_mono (ha pos pins s1 σ H1 _ I1 q) (fun us s2 q2 => ?_) fun _ _ z => z.elim) hst hpl
  obtain ⟨vs, H2, I2, r, q2⟩ := q2
  have I2' : Inv X pins σ H2 s2 := I2.Ie
  refine ⟨I2'.DP, ?_⟩
  have r2 : Vals (V.ref a :: (vs ++ dvs)) (Value.ref a :: (us ++ ds)) := .cons rfl (r.append hd)
  have hl : (Value.ref a :: us ++ ds).length = ps.length := by
    have e := r2.length
    rw [F.len _ _ _ _ q2] at e
    exact e.symm
  refine wpAny_call (codeAny_mono (F.run X.A X.stack s2 H2 ⟨Value.ref a :: us, []⟩ (Value.ref a :: (us ++ ds)) _ (fun _ _ => False) (yW R) hr I2'.j8 (b s2 (Value.ref a :: us) I2'.DP hl) r2 q2) fun r s' hq => ?_)
  cases r with
  | error e =>
    obtain ⟨a, cls, H', rfl, ⟨C', hC, hR⟩, hx⟩ := I2'.flew hq hex
    exact ⟨a, C', H', rfl, hx C' hC, hR⟩
  | ok fl =>
    cases fl with
    | ret u =>
      obtain ⟨_, _, _, _, _, _, _, z⟩ := hq
      exact z.elim
    | next => exact False.elim hq
    | brk => exact False.elim hq
    | cont => exact False.elim hq
def Lf (m : Str) (g : List D → Option Str) (fo : PF) (r : BW) (dd : List D) : Aq → Option Str := fun ρ => (fo (masked ρ)).bind fun x => (r (masked ρ)).bind fun as => if Du m x = true then g (x :: (as ++ dd)) else none
theorem Yk {n : Nat} {mg : Str → Option Value} {g : List D → Option Str} {fo : PF} {r : BW} {dd : List D} (hK : X.K = K) (hmg : X.mg = mg) (hC : nsIn K mainGlobals "Keeper" = some (some (.ref C))) (cl : Gq K C) (cx : HN X.prog X.w X.K X.mg X.base k C m ps ds (Dy K n mg g)) (hg' : Ht n g) (hd : Vals dvs ds) (hdd : ∀ H, BP K H dvs dd) (hex : X.ex = []) (hr : CV k X.A) (ho : JE X.Ds K o to fo) (ha : JA X.Ds K (e :: es) t r) {pl : Sem Bool} (hst : starEach (e :: es) X.env = (false, eval e X.env) :: starEach es X.env := by rfl) (hpl : (backTo pos (starEach es X.env)).any (·.1) = false := by rfl) (ht : eval (.Call (.Attribute o m apos) (e :: es) [] pos) X.env = (do
      let ov ← eval o X.env
      standAt apos.atName
      let (f, first) ← holding [ov] (getMethod ov m pl)
      callWith pos f first (backTo pos (starEach (e :: es) X.env)) (backToKw pos (keywordEach [] X.env))) := by rfl)
    (hs : swapsWith (.Call (.Attribute o m apos) (e :: es) [] pos) none epos.line X.env = pure false := by rfl) :
    QC X K mg (.Expr (.Call (.Attribute o m apos) (e :: es) [] pos) epos) (tH C m (Dy K n mg g) dvs to t) FN (Lf m g fo r dd) := ⟨by
  subst hK
  exact ADd ho.pe cl cx hd hex hr ha.pe hst hpl ht hs, (by
  intro H0 O0 Gh σ H ρ o E R ok st hF q
  cases hF), by
  intro H0 O0 Gh σ H ρ x E R ok st hG q
  obtain ⟨d, e1, hG⟩ := Ar hG
  obtain ⟨as, e2, hG⟩ := Ar hG
  obtain ⟨O, s0, nn, nd, gg, sl⟩ := st.ex
  have okA := Jj ok s0 sl
  refine ho.pu (O0 ++ O) σ H (masked ρ) d _ okA sl.mask e1 fun v H1 s1 r1 => ?_
  by_cases hm : Du m d = true
  case neg => rw [if_neg hm] at hG; cases hG
  rw [if_pos hm] at hG
  obtain ⟨a, dx, fs, rfl, ha', hl⟩ := Yg hC r1 hm
  refine ⟨a, dx, fs, rfl, ha', hl, ?_⟩
  refine ha.pu (O0 ++ O) σ H1 (masked ρ) as _ (okA.mono s1) (sl.mask.Ah s1) e2 fun vs H2 s2 r2 => ?_
  refine ⟨?_, O0 ++ O, d :: (as ++ dd), x, (okA.mono s1).mono s2, .cons (r1.Ah s2) (r2.append (hdd _)), hG, fun H' s' C hC => ⟨C, rfl, q H' (s1.trans (s2.trans s')) C hC⟩⟩
  have h1 := hg' _ _ hG
  rw [List.length_cons, List.length_append, r2.length, (hdd (Ah (O0 ++ O) H2)).length, ← List.length_append, ← List.length_cons (a := d)]
  exact h1⟩
theorem gU {mg : Str → Option Value} {c : Expr} {a b : Stmt} {tc : TT} {pc : PB} {ta tb : T1} {Fa Fb : Am} {Ga Gb : Aq → Option Str} (hc : JT X.Ds K c tc pc) (ha : QC X K mg a ta Fa Ga) (hb : QC X K mg b tb Fb Gb) :
    QC X K mg (.If c [a] [b] pos) (ADg tc ta tb) (Bq pc Fa Fb) (HY pc Ga Gb) := ⟨by
  intro pins s σ H D R I h
  have one : ∀ {st : Stmt} {s1 : Shared}, wpAny (model X.prog X.w) X.A (exec st X.env) (SP X pins D) (XE X pins σ R) s1 → wpAny (model X.prog X.w) X.A (execs [st] X.env) (SP X pins D) (XE X pins σ R) s1 := fun h => by
    refine wpAny_execs_cons (wpAny_mono h (fun f s2 q => ?_) fun _ _ z => z)
    cases f with
    | next => exact wpAny_execs_nil q
    | ret v => exact q
    | brk => exact q
    | cont => exact q
  refine wpAny_If (wpAny_mono (hc.pe pins s σ H _ (I.Hl _) h) (fun d s1 q => ?_) fun _ _ z => z.elim)
  obtain ⟨H1, I1, q1⟩ := q
  cases d with
  | true => exact one (ha.wp pins s1 σ H1 D R I1.Ie q1)
  | false => exact one (hb.wp pins s1 σ H1 D R I1.Ie q1), (by
  intro H0 O0 Gh σ H ρ o E R ok s hf q
  obtain ⟨k, e1, hf⟩ := Ar hf
  have ⟨o1, e2⟩ := s.HR ok
  refine hc.pu O0 σ H (full ρ) k _ o1 e2 e1 fun H' s' => ?_
  cases k with
  | true =>
    rw [if_pos rfl] at hf ⊢
    exact ha.pu H0 O0 Gh σ H' ρ o E R ok (s.grow s') hf q
  | false =>
    rw [if_neg Bool.false_ne_true] at hf ⊢
    exact hb.pu H0 O0 Gh σ H' ρ o E R ok (s.grow s') hf q), by
  intro H0 O0 Gh σ H ρ x E R ok s hf q
  obtain ⟨k, e1, hf⟩ := Ar hf
  have ⟨o1, e2⟩ := s.HR ok
  refine hc.pu O0 σ H (full ρ) k _ o1 e2 e1 fun H' s' => ?_
  cases k with
  | true =>
    rw [if_pos rfl] at hf ⊢
    exact ha.px H0 O0 Gh σ H' ρ x E R ok (s.grow s') hf fun H4 s4 => q H4 (s'.trans s4)
  | false =>
    rw [if_neg Bool.false_ne_true] at hf ⊢
    exact hb.px H0 O0 Gh σ H' ρ x E R ok (s.grow s') hf fun H4 s4 => q H4 (s'.trans s4)⟩
end
section
variable {X : Cx} {K : Frag} {C : Addr} {m : Str} {ps : List Str} {o e : Expr} {es : List Expr} {to : TE} {t : TA} {apos pos : Pos} {R : Str → Hp → Prop} {fo : PF} {r : BW} {g : Fg}
def oA (m : Str) (fo : PF) (g : Fg) : Fg := fun ρ => (fo ρ).bind fun x => if Du m x = true then g ρ else none
theorem AJ0 {qual : Str} {st : Stmt} {k : Nat} (hK : X.K = K) (hC : nsIn K mainGlobals "Keeper" = some (some (.ref C))) (cl : Gq K C) (D : Cz K C m qual st ps) (hr : CV k X.A) (ho : JE X K o to fo) (ha : WY X K R (e :: es) t r g) {pl : Sem Bool} (hst : starEach (e :: es) X.env = (false, eval e X.env) :: starEach es X.env := by rfl) (hpl : (backTo pos (starEach es X.env)).any (·.1) = false := by rfl) (ht : eval (.Call (.Attribute o m apos) (e :: es) [] pos) X.env = (do
      let ov ← eval o X.env
      standAt apos.atName
      let (f, first) ← holding [ov] (getMethod ov m pl)
      callWith pos f first (backTo pos (starEach (e :: es) X.env)) (backToKw pos (keywordEach [] X.env))) := by rfl) :
    Pn X K R (.Call (.Attribute o m apos) (e :: es) [] pos) (OD C m (fun _ _ _ _ => False) [] E0 to t) (fun _ => none) (oA m fo g) := ⟨by
  subst hK
  obtain ⟨f, fd, Fu, me, b⟩ := D.ex
  exact qM (k := k) (CX := GZ) ho.pe cl me ⟨fun _ _ _ _ h => h.elim, fun _ _ _ _ _ _ _ _ _ _ _ _ _ h => h.elim⟩ hr b .nil Nr ha.pe hst hpl ht, (by
  intro O σ H ρ d Q ok er h q
  cases h), by
  intro O σ H ρ x Q ok er h q
  obtain ⟨d, e1, h⟩ := Ar h
  refine ho.pu O σ H ρ d _ ok er e1 fun v H1 s1 r1 => ?_
  by_cases hm : Du m d = true
  case neg => rw [if_neg hm] at h; cases h
  rw [if_pos hm] at h
  obtain ⟨a, dx, fs, rfl, ha', hl⟩ := Yg hC r1 hm
  exact ⟨a, dx, fs, rfl, ha', hl, ha.px O σ H1 ρ x _ (ok.mono s1) (er.Ah s1) h fun H' s' => q H' (s1.trans s')⟩⟩
end
end L2
namespace L2
open PySem PySem.Spec PyProof.Rows
def VJ : List Int → Option Int
  | [] => none
  | a :: r => some (r.foldl min a)
theorem nH : ∀ (r : List Int) (a : Int), r.foldl min a ∈ a :: r ∧ ∀ x ∈ a :: r, r.foldl min a ≤ x
  | [], a => ⟨CW .., fun x hx => by rw [List.mem_singleton.mp hx]; exact Int.le_refl _⟩
  | b :: r, a => by
    obtain ⟨h1, h2⟩ := nH r (min a b)
    have e : (b :: r).foldl min a = r.foldl min (min a b) := rfl
    rw [e]
    have h3 := h2 (min a b) (CW ..)
    refine ⟨?_, fun x hx => ?_⟩
    · rcases List.mem_cons.mp h1 with h | h
      · by_cases hab : a ≤ b
        · rw [h, Int.min_eq_left hab]; simp
        · rw [h, Int.min_eq_right (by omega)]; simp
      · exact BZ (BZ h)
    · rcases List.mem_cons.mp hx with rfl | hx
      · omega
      · rcases List.mem_cons.mp hx with rfl | hx
        · omega
        · exact h2 x (BZ hx)
theorem mD {ns : List Int} {m : Int} (h : VJ ns = some m) : m ∈ ns ∧ ∀ x ∈ ns, m ≤ x := by
  cases ns with
  | nil => cases h
  | cons a r => cases h; exact nH r a
def YL : List D → Option D
  | [.list ds] => (JV ds).bind fun ns => (VJ ns).bind fun m => some (.int m)
  | _ => none
section
variable {X : Cx} {K : Frag}
theorem ABo (hh : X.A.handled = none) : Hj X (.builtin "min") (fun xs H Q => ∃ (a : Addr) (ns : List Int) (m : Int), xs = [.ref a] ∧ Bl X.K H a (ns.map V.int) ∧ VJ ns = some m ∧ Q (.int m) H) := by
  intro pins s σ H xs us Q I r h
  obtain ⟨a, ns, m, rfl, hq, hm, q⟩ := h
  obtain ⟨u, rfl, rx⟩ := vals1 r
  cases rx
  obtain ⟨its, rv, pl, hz⟩ := I.list hq
  have ia : IntsAre its ns := intsAre_of rv
  have hl := pl.isList
  obtain ⟨xs, hxs⟩ := ia.allInts.items
  have hn : ns = xs.toList.map (·.1) := by
    rw [← nums_intItems, ← hxs]
    exact ia.numsOf.symm
  rw [hxs] at hl
  obtain ⟨m1, m2⟩ := mD hm
  have hsz : 0 < xs.size := by
    have := List.length_pos_of_mem m1
    rw [hn, List.length_map, Array.length_toList] at this
    exact this
  refine min_intList hh hl hsz fun v h' tk hv hk => ?_
  obtain ⟨t, rfl⟩ := intItems_at hv
  obtain ⟨h1, h2⟩ := argBest_lt (numAt xs) (xs.size - 1)
  generalize argBest (fun i j => decide (numAt xs i < numAt xs j)) (xs.size - 1) = k at *
  have hin : numAt xs k ∈ ns := by
    rw [hn, numAt_eq]
    exact getD_mem (by rw [List.length_map, Array.length_toList]; omega)
  have hle : numAt xs k ≤ m := by
    have m1' := m1
    rw [hn] at m1'
    obtain ⟨j, hj, e⟩ := mem_getD m1'
    rw [List.length_map, Array.length_toList] at hj
    rw [← e, ← numAt_eq]
    exact h2 j (by omega)
  have heq : numAt xs k = m := Int.le_antisymm hle (m2 _ hin)
  rw [heq]
  exact ⟨.int _, H, I.kept (t' := tk) hk, ⟨_, rfl⟩, q⟩
theorem ADS (hK : X.K = K) (hh : X.A.handled = none) : Mj X K (.builtin "min") (fun xs H Q => ∃ (a : Addr) (ns : List Int) (m : Int), xs = [.ref a] ∧ Bl K H a (ns.map V.int) ∧ VJ ns = some m ∧ Q (.int m) H) YL := ⟨by subst hK; exact ABo hh, by
  intro O H vs ds d Q ok r hg q
  unfold YL at hg
  split at hg
  · rename_i es
    obtain ⟨ns, e, hg⟩ := Ar hg
    obtain ⟨m, em, hg⟩ := Ar hg
    cases hg
    obtain ⟨v, rfl, r1⟩ := rep1 r
    cases r1 with
    | lst hq r' =>
      have e4 := V4 r' e
      subst e4
      exact ⟨_, ns, m, rfl, Dd.seq hq, em, q _ H (Ao.refl H) (.int _)⟩
  · cases hg⟩
end
end L2
namespace L2
open PySem PySem.Spec PyProof.Rows PySem.W
structure FnAt (K : Frag) (x : Str) (st : Stmt) : Prop where
  ex : ∃ (f : Addr) (oc : Value) (od an : Option Addr) (sl : Array (Option Value)) (kV dc pm cd ct : Value), nsIn K mainGlobals x = some (some (.ref f)) ∧
    K.lookup f = some ⟨oc, od, .func (fnOf x x (Fx st) (Df st) (BL st) .none kV dc pm an cd ct), sl⟩ ∧ codeIn K cd x = true ∧ keepIn K (.ref f) = true
structure Ja (K : Frag) (C : Addr) (x q : Str) (st : Stmt) : Prop where
  ex : ∃ (f : Addr) (oc : Value) (od an : Option Addr) (sl : Array (Option Value)) (kV dc pm cd ct : Value), findIn K (.ref C) x = some (some (.ref f)) ∧ PySem.W.isFn K (.ref f) = true ∧
    K.lookup f = some ⟨oc, od, .func (fnOf x q (Fx st) (Df st) (BL st) .none kV dc pm an cd ct), sl⟩ ∧ codeIn K cd q = true ∧ keepIn K (.ref f) = true
structure U4 (K : Frag) (C : Addr) (x q : Str) (st : Stmt) : Prop where
  ex : ∃ (f T : Addr) (oc oT : Value) (od an dT : Option Addr) (sl sT : Array (Option Value)) (nT : Nat) (kV dc pm cd ct : Value), findIn K (.ref C) x = some (some (.ref f)) ∧ PySem.W.isFn K (.ref f) = true ∧
    K.lookup f = some ⟨oc, od, .func (fnOf x q (Fx st) (Df st) (BL st) (.ref T) kV dc pm an cd ct), sl⟩ ∧ codeIn K cd q = true ∧ keepIn K (.ref f) = true ∧ K.lookup T = some ⟨oT, dT, .seq #[.none] nT, sT⟩
section
variable {K : Frag} {C f T : Addr} {x q : Str} {st : Stmt} {oc oT kV dc pm cd ct : Value} {od an dT : Option Addr} {sl sT : Array (Option Value)} {nT : Nat}
theorem fnAt (a : nsIn K mainGlobals x = some (some (.ref f))) (l : K.lookup f = some ⟨oc, od, .func (fnOf x x (Fx st) (Df st) (BL st) .none kV dc pm an cd ct), sl⟩) (c : codeIn K cd x = true) (k : keepIn K (.ref f) = true) : FnAt K x st :=
  ⟨f, oc, od, an, sl, kV, dc, pm, cd, ct, a, l, c, k⟩
theorem lL (a : findIn K (.ref C) x = some (some (.ref f))) (n : PySem.W.isFn K (.ref f) = true) (l : K.lookup f = some ⟨oc, od, .func (fnOf x q (Fx st) (Df st) (BL st) .none kV dc pm an cd ct), sl⟩) (c : codeIn K cd q = true) (k : keepIn K (.ref f) = true) : Ja K C x q st :=
  ⟨f, oc, od, an, sl, kV, dc, pm, cd, ct, a, n, l, c, k⟩
theorem ACS (a : findIn K (.ref C) x = some (some (.ref f))) (n : PySem.W.isFn K (.ref f) = true) (l : K.lookup f = some ⟨oc, od, .func (fnOf x q (Fx st) (Df st) (BL st) (.ref T) kV dc pm an cd ct), sl⟩) (c : codeIn K cd q = true) (k : keepIn K (.ref f) = true) (t : K.lookup T = some ⟨oT, dT, .seq #[.none] nT, sT⟩) : U4 K C x q st :=
  ⟨f, T, oc, oT, od, an, dT, sl, sT, nT, kV, dc, pm, cd, ct, a, n, l, c, k, t⟩
end
section
variable {K : Frag} {C : Addr} {x q : Str} {st : Stmt} {mg : Str → Option Value} {h : Heap}
theorem FnAt.d (A : FnAt K x st) (X : K.In h) (G : h.Ns mainGlobals mg) {ps : List Str} (hb : ∀ (kV doc pm : Value) (an : Option Addr) (cdv ct : Value) (us : List Value), us.length = ps.length → bindArgs (fnOf x x (Fx st) (Df st) (BL st) .none kV doc pm an cdv ct) ⟨us, []⟩ = pure (ps.zip us)) : Def K mg x st ps := by
  obtain ⟨f, oc, od, an, sl, kV, dc, pm, cd, ct, a, l, c, k⟩ := A.ex
  exact AFn X G hb a l c k
theorem Ja.d (A : Ja K C x q st) {ps : List Str} (hb : ∀ (kV doc pm : Value) (an : Option Addr) (cdv ct : Value) (us : List Value), us.length = ps.length → bindArgs (fnOf x q (Fx st) (Df st) (BL st) .none kV doc pm an cdv ct) ⟨us, []⟩ = pure (ps.zip us)) : Cz K C x q st ps := by
  obtain ⟨f, oc, od, an, sl, kV, dc, pm, cd, ct, a, n, l, c, k⟩ := A.ex
  exact AI4 hb a n l c k
theorem U4.d (A : U4 K C x q st) {ps : List Str} {ds : List Value} (hb : ∀ (T : Addr) (kV doc pm : Value) (an : Option Addr) (cdv ct : Value) (us : List Value), (us ++ ds).length = ps.length → ∃ kq : Option (Array Value) → Sem (List (Str × Value)), bindArgs (fnOf x q (Fx st) (Df st) (BL st) (.ref T) kV doc pm an cdv ct) ⟨us, []⟩ = seqItems? (.ref T) >>= kq ∧ kq (some #[.none]) = pure (ps.zip (us ++ ds))) : JQ K C x q st ps ds := by
  obtain ⟨f, T, oc, oT, od, an, dT, sl, sT, nT, kV, dc, pm, cd, ct, a, n, l, c, k, t⟩ := A.ex
  exact AJf (hb T) a n l c k t
end
end L2
namespace S29
open PySem L2 LL S22 S27
def R1 : List D → Option (List D) := Nm
def V0 : En := (Gr (Ay 5 (vS (Ai Ho (Ab (Aa 2) (Ab (Aa 3) Ae))))) G4 (Gr (Bq (Ax (Ac Pu (Aa 5) (Ad .none)))
      (Dr (Bm (Ab (Be (Ab (Aa 5) (Ab (Be (Ab (Aa 3) (Ab (Aa 4) Ae))) Ae))) Ae))) CQ) G4
    (Gr (Bq (Ax (Ac Mz (Ai Gk (Ab (Aa 2) (Ab (Ad (.int 0)) (Ab (Ai CN (Ab (Aa 2) Ae)) Ae)))) (Ai HD (Ab (Aa 0) (Ab (Aa 1) Ae)))))
      FN CQ) (HY (Ax (Ac Mz (Ai Gk (Ab (Aa 2) (Ab (Ad (.int 0)) (Ab (Ai CN (Ab (Aa 2) Ae)) Ae)))) (Ai HD (Ab (Aa 0) (Ab (Aa 1) Ae))))) (Ve "Full") G4)
    G4)))
def Nq : List D → Option Str := Im 5 7 V0
def lF : List D → Option (List D) := Nm
def XC : En := (Gr (Ay 2 (vS (Ai Ho (Ab (Aa 0) (Ab (Aa 1) Ae))))) G4 (Gr (Bq (Ax (Ac J7 (Aa 2) (Ad .none)))
      FN CQ) (HY (Ax (Ac J7 (Aa 2) (Ad .none))) (Ve "NoKey") G4)
    G4))
def Pk : List D → Option Str := Im 2 3 XC
def VB : Am := (Al (Ay 3 (vS (Aw (BX Eb (Ab (Aa 0) (Ab (Aa 1) Ae)))))) (Al (Ay 4 (vS (Ai Fy (Ab (Aa 1) Ae)))) (Al (Bq (Ft (Ax (Ac Bj (Aa 4) (Ac Av (Aa 0) (Ad (.int 0))))) (Ax (Ac Ha (Ai Gk (Ab (Aa 3) (Ab (Ad (.int 0)) (Ab (Ai CN (Ab (Aa 3) Ae)) Ae)))) (Ai HD (Ab (Aa 0) (Ab (Aa 4) Ae))))))
      (Bh (Ad (.bool false))) CQ)
    FN)))
def Pa : List D → Option D := Ba 3 5 VB
def VM : Am := (Al (Bq (Ff (Ax (Ai Pa (Ab (Aa 0) (Ab (Aa 1) (Ab (Aa 2) Ae))))))
      (Dr (Bm Ae)) CQ)
    FN)
def Nh : List D → Option (List D) := Ci 3 9 VM
def WM : List D → Option (List D) := Nm
def Wn : En := (Gr (Ay 4 (vS (Aw (BX Nh (Ab (Aa 0) (Ab (Aa 1) (Ab (Aa 2) Ae))))))) G4 (Gr (Ay 5 (vS (Aw (Mu (NT HH (Ab (Aa 1) (Ab (Aa 4) Ae))))))) G4 (Gr (Ay 6 (vS (Aw (BX R1 (Ab (Aa 0) (Ab (Ai Fy (Ab (Aa 5) Ae)) (Ab (Aw (BX Eb (Ab (Aa 0) (Ab (Aa 5) Ae)))) (Ab (Aa 2) (Ab (Aa 3) Ae))))))))) (fun ρ => (O9 (Ab (Aa 0) (Ab (Ai Fy (Ab (Aa 5) Ae)) (Ab (Aw (BX Eb (Ab (Aa 0) (Ab (Aa 5) Ae)))) (Ab (Aa 2) (Ab (Aa 3) Ae))))) Nq) (masked ρ))
    G4)))
def Nt : List D → Option Str := Im 4 7 Wn
def j6 : List D → Option (List D) := Nm
def uN : En := (fun ρ => (pG (Ai Ik (Ab (Aa 1) Ae)) (O9 (Ab (Aw (BX Eb (Ab (Aa 0) (Ab (Aa 1) Ae)))) (Ab (Aa 2) Ae)) Pk)) (full ρ))
def K3 : List D → Option Str := Im 3 3 uN
def Wq : En := (Gr (Ay 4 (vS (Aw (BX WM (Ab (Dj (Aa 0) "bounds") (Ab (Dj (Aa 0) "lying") (Ab (Aa 1) (Ab (Aa 2) Ae)))))))) (fun ρ => (O9 (Ab (Dj (Aa 0) "bounds") (Ab (Dj (Aa 0) "lying") (Ab (Aa 1) (Ab (Aa 2) Ae)))) Nt) (masked ρ))
    G4)
def Ir : List D → Option Str := Im 4 9 Wq
def vC : En := (fun ρ => oA "do_writes" (Aa 0) (QG (Aw (BX j6 (Ab (Dj (Aa 0) "bounds") (Ab (Dj (Aa 0) "lying") (Ab (Aa 1) Ae))))) (O9 (Ab (Dj (Aa 0) "bounds") (Ab (Dj (Aa 0) "lying") (Ab (Aa 1) Ae))) K3) (QG (Aa 2) YH YH)) (full ρ))
def Ii : List D → Option Str := Im 3 3 vC
def fV : Am := (Dr (Mu (NT HH (Ab (Dj (Aa 0) "lying") (Ab (Aw (Bm Ae)) Ae)))))
def R6 : List D → Option (List D) := Ci 1 1 fV
def bQ : Am := (Bh (Be (Ab (Dj (Aa 0) "puts") (Ab (Dj (Aa 0) "moves") (Ab (Dj (Aa 0) "laid") (Ab (Dj (Aa 0) "first_excess") (Ab (Dj (Aa 0) "first_over") Ae)))))))
def VN : List D → Option D := Ba 1 1 bQ
def R8 : Am := (Al (Ay 3 (vS (Aw (Bm Ae)))) (Al (Ay 4 (vS (Ac Av (Aw (Bm (Ab (Ad (.int 0)) (Ab (Ad (.int 1)) (Ab (Ad (.int 1000)) Ae))))) (Ac BV (Ac CJ (Aa 2) (Ad (.int 4))) (Ad (.int 3)))))) (Al (Oq 3 5 "Full" "NoKey" (Bq (Ax (Ac Bj (Ac BV (Aa 2) (Ad (.int 4))) (Ad (.int 0)))) FN (Bq (Ax (Ac Bj (Ac BV (Aa 2) (Ad (.int 4))) (Ad (.int 1)))) FN (Bq (Ax (Ac Bj (Ac BV (Aa 2) (Ad (.int 4))) (Ad (.int 2)))) FN FN))) (HY (Ax (Ac Bj (Ac BV (Aa 2) (Ad (.int 4))) (Ad (.int 0)))) (Lf "put" Ir (Aa 0) (Ab (Aa 1) (Ab (Ad (.int 3)) Ae)) [.none]) (HY (Ax (Ac Bj (Ac BV (Aa 2) (Ad (.int 4))) (Ad (.int 1)))) (Lf "put" Ir (Aa 0) (Ab (Aa 1) (Ab (Ad (.int 3)) (Ab (Aa 4) Ae))) []) (HY (Ax (Ac Bj (Ac BV (Aa 2) (Ad (.int 4))) (Ad (.int 2)))) (Lf "take" Ii (Aa 0) (Ab (Aa 1) Ae) [.none]) (Lf "take" Ii (Aa 0) (Ab (Aa 1) (Ab (Aa 4) Ae)) []))))) (Bh (Aa 3)))))
def Fp : List D → Option D := Ba 3 6 R8
def gZ : Am := (Dr (Bm (Ab (Aw (Hu "disk" R6 (Aa 0) Ae)) (Ab (Aw (Hu "rows" QZ (Aa 0) Ae)) (Ab (Hu "counts" VN (Aa 0) Ae) (Ab (Hu "excess" Lx (Aa 0) Ae) (Ab (Hu "over" Ls (Aa 0) Ae) Ae)))))))
def Lr : List D → Option (List D) := Ci 1 1 gZ
noncomputable def MK : Am := (Al (Ay 9 (vS (Ac Av (Aw (Bm (Ab (Ac BV (Aa 8) (Ac G9 (Ad (.int 10)) (Ad (.int 58)))) (Ab (Ma M9 (Ac BV (Aa 8) (Ac G9 (Ad (.int 10)) (Ad (.int 58))))) Ae)))) (Ac BV (Ac CJ (Aa 8) (Ad (.int 12))) (Ad (.int 2))))))
      (Al (Bq (GX (Ax (Ac Bu (Aa 7) (Aw (Bm Ae)))) (Ax (Ac Bj (Ac BV (Ac CJ (Aa 8) (Ad (.int 24))) (Ad (.int 2))) (Ad (.int 0)))))
        (Ay 9 (vS (Ac Ck (Ac Av (Aa 7) (Ac BV (Ac CJ (Aa 8) (Ad (.int 48))) (Ai CN (Ab (Aa 7) Ae)))) (Ad (.int 1))))) CQ)
      (Bq (GX (Ax (Ac (Nz true) (Aa 9) (Aa 7))) (Ft (Ax (Ac G3 (Ac BV (Aa 8) (Ad (.int 4))) (Ad (.int 1)))) (Ax (Aa 4))))
        (Al (Ay 10 (vS (Aw (BX Lr (Ab (Aa 6) Ae)))))
        (Al (Ay 11 (vS (Aw (Bm (Ab (Ac Ha (Ac BV (Aa 8) (Ad (.int 4))) (Ad (.int 2))) (Ab (Ac G3 (Ac BV (Aa 8) (Ad (.int 4))) (Ad (.int 1))) (Ab (Ad (.bool false)) (Ab (Ad (.bool true)) Ae))))))))
        (Bq (Ft (Ax (Ac Bu (Ai Fp (Ab (Aa 6) (Ab (Aa 9) (Ab (Aa 8) Ae)))) (Aa 11))) (Ax (Ac Bu (Aw (BX Lr (Ab (Aa 6) Ae))) (Aa 10))))
          (Bh (Ad (.bool false))) CQ))) CQ)))
noncomputable def VG : Am := (Al (Ay 1 (vS (Ai PN (Ab (Ai Nj (Ab (Aa 0) (Ab (Ad (.int 0)) Ae))) Ae))))
    (Al (Ay 2 (vS (Ai J5 (Ab (Ai Nj (Ab (Aa 0) (Ab (Ad (.int 1)) Ae))) Ae))))
    (Al (Bq (Ax (Ac G3 (Ac Av (Aa 1) (Ad (.int 0))) (Ad (.int 2))))
      (Ay 1 (vS (Be (Ab (Ad (.int 2)) (Ab (Ac Av (Aa 1) (Ad (.int 1))) (Ab (Ac Av (Aa 1) (Ad (.int 2))) Ae)))))) CQ)
    (Al (Ay 3 (vS (Ac Av (Aw (Bm (Ab (Ac BV (Ac CJ (Aa 2) (Ad (.int 2))) (Ac Ck (Ac Av (Aa 1) (Ad (.int 0))) (Ad (.int 1)))) (Ab (Ac Av (Aa 1) (Ad (.int 0))) Ae)))) (Ac BV (Aa 2) (Ad (.int 2))))))
    (Al (Ay 4 (vS (Gp (Ac Bj (Aa 3) (Ac Av (Aa 1) (Ad (.int 0)))) (Ac Bj (Ac BV (Ac CJ (Aa 2) (Ad (.int 9))) (Ad (.int 2))) (Ad (.int 1))))))
    (Al (Ay 5 (vS (Aw (BX M5 (Ab (Aa 1) (Ab (Aa 3) (Ab (Aa 2) (Ab (Ac Ed (Ai Mq (Ab (Aa 1) (Ab (Aa 3) Ae))) (Ac DR (Ai Kd (Ab (Qw (Aa 4)) Ae)) (Ac Ck (Ad (.int 1)) (Ac BV (Ac CJ (Aa 2) (Ad (.int 18))) (Ad (.int 3)))))) Ae))))))))
    (Al (Ay 6 (vS (Uv Kp (Ab (Aa 1) (Ab (Aw (BX K7 (Ab (Aa 1) (Ab (Aa 3) (Ab (Ac BV (Ac CJ (Aa 2) (Ad (.int 7))) (Ad (.int 2))) (Ab (Aa 5) (Ab (Aa 2) Ae))))))) Ae)))))
    (Al (Ay 7 (Gv (CT (DX (Aa 5)) (Ca 0) (Ax (Ac Bu (Aa 0) (Be Ae))) (Ac Av (Aa 0) (Ad (.int 0))) 1 [])))
    (Al (Hk (DX (Aw (CT (DX (Aw (GF (Aw (Bm (Ab (Ad (.int 0)) Ae))) (Aw (Gz (Aa 0) (Fj (Ad (.int 2))) (Fj (Ad (.int 32)))))))) (Ca 0) Cu (Ai J5 (Ab (Aa 0) Ae)) 1 []))) (J3 8) MK)
    (Bh (Ac Bj (Ai Fp (Ab (Aa 6) (Ab (Ac Ed (Ai YL (Ab (Aw (GF (Aa 7) (Aw (Bm (Ab (Ad (.int 0)) Ae))))) Ae)) (Ad (.int 1))) (Ab (Ad (.int 2)) Ae)))) (Aw (Bm (Ab (Ad (.bool false)) (Ab (Ad (.bool true)) (Ab (Ad (.bool false)) (Ab (Ad (.bool true)) Ae)))))))))))))))))
noncomputable def Qa : List D → Option D := Ba 1 12 VG
end S29
namespace S29
open PySem L2 LL S22 S27
def top (i : Nat) : Stmt := PySem.Challenge.pw_gapshelf_k29_deeds_refused.main.body.getD i (.Pass ⟨0, 0, 0, 0⟩)
abbrev YJ : Stmt := top 3
abbrev Wi : Stmt := top 4
abbrev Xy : Stmt := top 5
abbrev Yh : Stmt := top 6
abbrev Yl : Stmt := top 7
abbrev Vp : Stmt := top 9
abbrev WX : Stmt := top 10
abbrev Wk : Stmt := top 12
abbrev Ws : Stmt := top 13
abbrev Yq : Stmt := top 14
abbrev Vq : Stmt := top 15
abbrev Vt : Stmt := top 16
abbrev Wd : Stmt := top 17
abbrev Vi : Stmt := top 18
abbrev V5 : Stmt := top 20
abbrev W7 : Stmt := top 21
abbrev Ye : Stmt := top 22
abbrev Xv : Stmt := top 23
abbrev Xl : Stmt := top 37
abbrev Vn : Stmt := top 40
abbrev Wg : Stmt := top 42
abbrev Y4 : Stmt := top 45
abbrev XD : Stmt := top 46
abbrev YC : Stmt := top 47
abbrev YT : Stmt := top 48
abbrev Yy : Stmt := top 49
abbrev Vm : Stmt := top 50
abbrev Xj : Stmt := top 51
abbrev W5 : Stmt := top 52
abbrev XM : Stmt := top 53
abbrev XH : Stmt := top 54
abbrev Yv : Stmt := top 55
abbrev Xn : Stmt := top 56
abbrev Wl : Stmt := top 57
abbrev Wy : Stmt := top 58
abbrev ZC : Stmt := top 59
abbrev Xe : Stmt := top 61
abbrev Xh : Stmt := clsAt (top 62) 0
abbrev Vl : Stmt := clsAt (top 62) 1
abbrev Xm : Stmt := clsAt (top 62) 2
abbrev S8 : Stmt := clsAt (top 62) 3
abbrev Ur : Stmt := clsAt (top 62) 4
abbrev bM : Stmt := clsAt (top 62) 5
abbrev Y8 : Stmt := clsAt (top 62) 7
abbrev ZJ : Stmt := clsAt (top 62) 8
abbrev Wc : Stmt := clsAt (top 62) 9
abbrev YS : Stmt := clsAt (top 62) 10
abbrev Y5 : Stmt := clsAt (top 62) 11
abbrev Yx : Stmt := top 64
abbrev Y9 : Stmt := top 65
abbrev Vu : Stmt := top 66
abbrev Vz : Stmt := top 67
abbrev Wa : Stmt := top 68
abbrev Xr : Stmt := top 69
abbrev Xp : Stmt := top 70
abbrev Xi : Stmt := top 71
abbrev Yt : Stmt := top 72
abbrev Yu : Stmt := top 73
abbrev X4 : Stmt := top 74
abbrev WL : Stmt := top 75
structure Txt (K : Frag) (mg : Str → Option Value) (CK : Addr) : Prop where
  ob : Pg K CK
  mks : makesIn K CK = true
  kp : keepIn K (.ref CK) = true
  mgK : mg "Keeper" = some (.ref CK)
  Jp : JB K "bounds"
  Q6 : JB K "first_excess"
  Rj : JB K "first_over"
  QM : JB K "laid"
  Jo : JB K "lying"
  Q5 : JB K "moves"
  Qh : JB K "puts"
  AGG : mg "ValueError" = none
  bO : mg "all" = none
  AH2 : mg "bool" = none
  Z6 : mg "enumerate" = none
  cP : mg "int" = none
  JK : mg "isinstance" = none
  Fz : mg "len" = none
  O5 : mg "list" = none
  tD : mg "max" = none
  ADr : mg "min" = none
  NK : mg "range" = none
  yZ : mg "sum" = none
  jE : mg "tuple" = none
  AEi : mg "zip" = none
  AIO : ∃ t, mg "GREATEST_TOP" = some (.int 4 t)
  AHO : ∃ t, mg "GREATEST_WIDTH" = some (.int 20 t)
  eX : ∃ t, mg "SIGN_PART" = some (.int 2 t)
section
variable {P : Program} {w : World} {K : Frag} {mg : Str → Option Value} {base : Heap} {CK : Addr}
structure KF (K : Frag) (mg : Str → Option Value) (Dc C1 C2 d1 d2 d3 d4 : Addr) : Prop where
  m0 : mg "ShelfError" = some (.ref Dc)
  t1 : mg "BadBounds" = some (.ref d1)
  t2 : mg "BadDisk" = some (.ref d2)
  t3 : mg "NoText" = some (.ref d3)
  t4 : mg "NoRow" = some (.ref d4)
  x0 : excIn K Dc Hr "ValueError.__new__" = true
  x1 : excIn K C1 Hr "ValueError.__new__" = true
  x2 : excIn K C2 Hr "ValueError.__new__" = true
  e1 : Lj K C1
  e2 : Lj K C2
  l1 : (PySem.W.clsIn K C1).isSome = true
  l2 : (PySem.W.clsIn K C2).isSome = true
  s1 : mroIn K C1 (.ref Dc) = some true
  s2 : mroIn K C2 (.ref Dc) = some true
  kc : fO K mg "Full" "NoKey" C1 C2 [d1, d2, d3, d4]
theorem KF.ek {K : Frag} {mg : Str → Option Value} {Dc C1 C2 d1 d2 d3 d4 : Addr} (kf : KF K mg Dc C1 C2 d1 d2 d3 d4) : ∀ C ∈ [C1, C2], Lj K C ∧ (PySem.W.clsIn K C).isSome = true ∧ mroIn K C (.ref Dc) = some true := fun C hC => by
  rcases List.mem_cons.mp hC with rfl | hC
  · exact ⟨kf.e1, kf.l1, kf.s1⟩
  · rcases List.mem_cons.mp hC with rfl | hC
    · exact ⟨kf.e2, kf.l2, kf.s2⟩
    · cases hC
theorem AKI {K : Frag} {te : TE} : Hh K te (fun _ => none) := by
  intro H0 O0 G σ H ρ s Q ok t hf q
  cases hf
theorem AAd : Ip = Ba 1 1 mQ := by rfl
theorem AGa : Bk ["thing"] ["thing"] (BL YJ) := by walk_at "sc"
theorem AJD (Uo : Def K mg "is_whole" YJ ["thing"]) (T : Txt K mg CK)  : Callee P w K mg base 1 "is_whole" ["thing"] (BR K 1 Ip) := by
  refine Def.Cy (AAd) Uo AGa rfl rfl fun f c A o s H E hr => ?_
  have hu := Bv hr
  exact ⟨_, (Bc (Cg (Ia (Mh "int" rfl (by simp) rfl T.JK rfl T.cP (by rfl) (Af 0)) (Km (tZ (Mh "bool" rfl (by simp) rfl T.JK rfl T.AH2 (by rfl) (Af 0)))))))⟩
theorem ABt : Hd = Ba 3 3 gO := by rfl
theorem ADH : Bk ["top", "width", "step"] ["top", "width", "step"] (BL Xy) := by walk_at "sc"
theorem AFk (Sd : Def K mg "are_in_range" Xy ["top", "width", "step"]) (T : Txt K mg CK)  : Callee P w K mg base 1 "are_in_range" ["top", "width", "step"] (BR K 3 Hd) := by
  refine Def.Cy (ABt) Sd ADH rfl rfl fun f c A o s H E hr => ?_
  have hu := Bv hr
  exact ⟨_, (Bb (Fd (JW.jt (Ny (J8 (cH Kq Kq Ak (Af 0) (U7 (i := 4) rfl T.AIO))) (Oa (J8 (cH Kq Kq Ak (Af 1) (U7 (i := 20) rfl T.AHO))))))
      (Bc (Cg IV)) Er)
    (Bc (Cg (Ia (Hz eZ (Af 2) Ak (Ce _)) (Km (Hz eZ (Af 1) (BJ Ew (Af 2) (BJ Gf (Af 0) Ak)) (Ce _)))))))⟩
theorem AGD : Ku = Ba 1 1 Um := by rfl
theorem AEr : Bk ["thing"] ["thing"] (BL Wi) := by walk_at "sc"
theorem AIZ (SN : Def K mg "is_bounds" Wi ["thing"]) (T : Txt K mg CK) (cG : Callee P w K mg base 1 "are_in_range" ["top", "width", "step"] (BR K 3 Hd)) (N5 : Callee P w K mg base 1 "is_whole" ["thing"] (BR K 1 Ip)) : Callee P w K mg base 2 "is_bounds" ["thing"] (BR K 1 Ku) := by
  refine Def.Cy (AGD) SN AEr rfl rfl fun f c A o s H E hr => ?_
  have hu := Bv hr
  exact ⟨_, (Bb (Fd (JW.jt (Ny (J8 (KH (Mh "tuple" rfl (by simp) rfl T.JK rfl T.jE (by rfl) (Af 0)) (fun _ => rfl))) (Oa (DN (IK rfl hu) (Dv (GC rfl) (by rfl) T.Fz (by rfl) (Ag (Af 0) Aj)) Ak (Ce _)))))
      (Bc (Cg IV)) Er)
    (Bb (Fd (J8 (KH (Dv (iI rfl hr.hd) (by rfl) T.bO (by rfl) (Ag (JL.je (Kr ["part"] [] rfl (ABu rfl (Af 0)) trivial (Jc (by decide)) (fun _ _ _ _ => JF (i := 0) (show (["part"] : List Str).Nodup by decide +kernel) rfl (Or.inl rfl) (Or.inr rfl)) (fun _ _ _ _ => KR) (fun _ _ _ _ => (Bt N5 (Br _ _ _) hr rfl (Ag (Af 0) Aj))) rfl (by decide) (by decide) (Jh (by decide)))) Aj)) (fun _ => rfl)))
      (Bc (Cg IV)) Er)
    (Bc (Cg (Bt cG (Br _ _ _) hr rfl (Ag (CG rfl (Af 0) Ak (fun _ _ => rfl)) (Ag (CG rfl (Af 0) Ak (fun _ _ => rfl)) (Ag (CG rfl (Af 0) Ak (fun _ _ => rfl)) Aj))))))))⟩
theorem AJ3 : Lk = Ba 1 3 gJ := by rfl
theorem Y7 : Bk ["height", "power", "doubling"] ["height"] (BL Yh) := by walk_at "sc"
theorem AKU (SQ : Def K mg "twofold" Yh ["height"]) (T : Txt K mg CK)  : Callee P w K mg base 1 "twofold" ["height"] (BR K 1 Lk) := by
  refine Def.Cy (AJ3) SQ Y7 rfl rfl fun f c A o s H E hr => ?_
  have hu := Bv hr
  exact ⟨_, (Bb (CZ (i := 1) Y7.nd rfl (Or.inl rfl) Ak)
    (Bb (Og PassesOwn.never rfl (Ru rfl T.NK (Ag (Af 0) Aj)) (Wx (i := 2) Y7.nd rfl (Or.inl rfl))
      (Bc (CZ (i := 1) Y7.nd rfl (Or.inl rfl) (BJ Ew (Af 1) Ak))))
    (Bc (Cg (Af 1)))))⟩
theorem AKO : Jt = Ba 2 3 bY := by rfl
theorem sE : Bk ["bounds", "height", "width"] ["bounds", "height"] (BL Yl) := by walk_at "sc"
theorem ACf (TF : Def K mg "places_of" Yl ["bounds", "height"]) (T : Txt K mg CK) (K4 : Callee P w K mg base 1 "twofold" ["height"] (BR K 1 Lk)) : Callee P w K mg base 2 "places_of" ["bounds", "height"] (BR K 2 Jt) := by
  refine Def.Cy (AKO) TF sE rfl rfl fun f c A o s H E hr => ?_
  have hu := Bv hr
  exact ⟨_, (Bb (CZ (i := 2) sE.nd rfl (Or.inl rfl) (CG rfl (Af 0) Ak (fun _ _ => rfl)))
    (Bc (Cg (BJ Ew (Bt K4 (Br _ _ _) hr rfl (Ag (Af 1) Aj)) (Af 2)))))⟩
theorem ACV : HD = Ba 2 4 fH := by rfl
theorem jG : Bk ["bounds", "height", "width", "step"] ["bounds", "height"] (BL Vp) := by walk_at "sc"
theorem AHV (Sq : Def K mg "cap_of" Vp ["bounds", "height"]) (T : Txt K mg CK) (K4 : Callee P w K mg base 1 "twofold" ["height"] (BR K 1 Lk)) : Callee P w K mg base 2 "cap_of" ["bounds", "height"] (BR K 2 HD) := by
  refine Def.Cy (ACV) Sq jG rfl rfl fun f c A o s H E hr => ?_
  have hu := Bv hr
  exact ⟨_, (Bb (CZ (i := 2) jG.nd rfl (Or.inl rfl) (CG rfl (Af 0) Ak (fun _ _ => rfl)))
    (Bb (CZ (i := 3) jG.nd rfl (Or.inl rfl) (CG rfl (Af 0) Ak (fun _ _ => rfl)))
    (Bc (Cg (BJ Ew (Bt K4 (Br _ _ _) hr rfl (Ag (Af 1) Aj)) (BJ Jd (Af 2) (BJ Ew (Af 3) (Af 1))))))))⟩
theorem ACd : Tg = Ba 2 4 aD := by rfl
theorem aR : Bk ["bounds", "height", "width", "step"] ["bounds", "height"] (BL WX) := by walk_at "sc"
theorem ADQ (Ug : Def K mg "calm_of" WX ["bounds", "height"]) (T : Txt K mg CK) (K4 : Callee P w K mg base 1 "twofold" ["height"] (BR K 1 Lk)) : Callee P w K mg base 2 "calm_of" ["bounds", "height"] (BR K 2 Tg) := by
  refine Def.Cy (ACd) Ug aR rfl rfl fun f c A o s H E hr => ?_
  have hu := Bv hr
  exact ⟨_, (Bb (CZ (i := 2) aR.nd rfl (Or.inl rfl) (CG rfl (Af 0) Ak (fun _ _ => rfl)))
    (Bb (CZ (i := 3) aR.nd rfl (Or.inl rfl) (CG rfl (Af 0) Ak (fun _ _ => rfl)))
    (Bc (Cg (BJ Ew (Bt K4 (Br _ _ _) hr rfl (Ag (Af 1) Aj)) (BJ Jd (Af 2) (BJ Ew (Af 3) (BJ Gf (Af 1) Ak))))))))⟩
theorem AJY : T3 = Ba 1 2 Zh := by rfl
theorem rF : Bk ["shelf", "keys"] ["shelf"] (BL Wk) := by walk_at "sc"
theorem AJr (U5 : Def K mg "is_straight" Wk ["shelf"]) (T : Txt K mg CK)  : Callee P w K mg base 1 "is_straight" ["shelf"] (BR K 1 T3) := by
  refine Def.Cy (AJY) U5 rF rfl rfl fun f c A o s H E hr => ?_
  have hu := Bv hr
  exact ⟨_, (Bb (WT (i := 1) Gv zP ["thing"] [] rF.nd rfl (Or.inl rfl) rfl (J0 rfl (Af 0)) trivial (Jc (by decide)) (fun _ _ _ _ => JF (i := 0) (show (["thing"] : List Str).Nodup by decide +kernel) rfl (Or.inl rfl) (Or.inr rfl)) (fun _ _ _ _ => (T6 (DN (IK rfl hu) (Af 0) (Eu Aj) (Ce _)))) (fun _ _ _ _ => (CG rfl (Af 0) Ak (fun _ _ => rfl))) rfl (by decide) (by decide) (Jh (by decide)) (by rfl))
    (Bc (Cg (Dv (iI rfl hr.hd) (by rfl) T.bO (by rfl) (Ag (JL.je (Kr ["key", "farther"] [] rfl (ADL rfl rfl T.AEi (Ag (Af 1) (Ag (JL.je (Wv rfl (Af 1) (S5 Ak) Zb)) Aj))) trivial (g8 (by decide) (by decide)) (fun _ _ _ _ => Zz (i := 0) (j := 1) rfl rfl (show (["key", "farther"] : List Str).Nodup by decide +kernel) rfl (Or.inl rfl) rfl (Or.inl rfl) (Or.inr rfl) (Or.inr rfl)) (fun _ _ _ _ => KR) (fun _ _ _ _ => (Hz Th (Af 0) (Af 1) (Ce _))) rfl (by decide) (by decide) (Jh (by decide)))) Aj)))))⟩
theorem AJV : O8 = Ci 2 5 j9 := by rfl
theorem eF : Bk ["shelf", "writes", "places", "place", "thing"] ["shelf", "writes"] (BL Vi) := by walk_at "sc"
theorem AKS (Uu : Def K mg "done" Vi ["shelf", "writes"]) (T : Txt K mg CK)  : Callee P w K mg base 1 "done" ["shelf", "writes"] (Bw K 2 O8) := by
  refine Def.Hc (AJV) Uu eF rfl rfl fun f c A o s H E hr => ?_
  have hu := Bv hr
  exact ⟨_, (Bb (jQ (i := 2) eF.nd rfl (Or.inl rfl) (fW (fZ rfl) (by rfl) T.O5 (by rfl) (Ag (Af 0) Aj)))
    (Bb (Og PassesOwn.never rfl (J0 rfl (Af 1)) (iV (i := 3) (j := 4) rfl rfl eF.nd rfl (Or.inl rfl) rfl (Or.inl rfl))
      (Bc (uM 2 (Af 4) (Af 3))))
    (Bc (jX 2))))⟩
theorem AKA : J6 = Ba 1 4 YM := by rfl
theorem Wu : Bk ["shelf", "last", "place", "thing"] ["shelf"] (BL Yq) := by walk_at "sc"
theorem ACa (Tn : Def K mg "second_place" Yq ["shelf"]) (T : Txt K mg CK)  : Callee P w K mg base 1 "second_place" ["shelf"] (BR K 1 J6) := by
  refine Def.Cy (AKA) Tn Wu rfl rfl fun f c A o s H E hr => ?_
  have hu := Bv hr
  exact ⟨_, (Bb (CZ (i := 1) Wu.nd rfl (Or.inl rfl) (Eu Aj))
    (Bb (Og PassesOwn.never rfl (dB rfl rfl T.Z6 (Ag (Af 0) Aj)) (iV (i := 2) (j := 3) rfl rfl Wu.nd rfl (Or.inl rfl) rfl (Or.inl rfl))
      (Bb (Fd (JW.jt (Qj (DN (IK rfl hu) (Af 3) (Eu Aj) (Ce _)) (QT (DN (HS rfl hu) (Af 3) (Af 1) (Ce _)))))
        (Bc (Cg (Af 2))) Er)
      (Bc (Fd (DN (IK rfl hu) (Af 3) (Eu Aj) (Ce _))
        (Bc (CZ (i := 1) Wu.nd rfl (Or.inl rfl) (Af 3))) Er))))
    (Bc (Cg Qx))))⟩
theorem ACY : OJ = Ci 1 2 ZV := by rfl
theorem v5 : Bk ["shelf", "second"] ["shelf"] (BL Vq) := by walk_at "sc"
theorem ADJ (Sg : Def K mg "mended" Vq ["shelf"]) (T : Txt K mg CK) (cF : Callee P w K mg base 1 "done" ["shelf", "writes"] (Bw K 2 O8)) (QH : Callee P w K mg base 1 "second_place" ["shelf"] (BR K 1 J6)) : Callee P w K mg base 2 "mended" ["shelf"] (Bw K 1 OJ) := by
  refine Def.Hc (ACY) Sg v5 rfl rfl fun f c A o s H E hr => ?_
  have hu := Bv hr
  exact ⟨_, (Bb (CZ (i := 1) v5.nd rfl (Or.inl rfl) (Bt QH (Br _ _ _) hr rfl (Ag (Af 0) Aj)))
    (Bb (Fd (DN dX (Af 1) Qx (Ce _))
      (Bc (Hy (fW (fZ rfl) (by rfl) T.O5 (by rfl) (Ag (Af 0) Aj)))) Er)
    (Bc (Hy (Fq cF (Eo _ _ _) hr rfl (Ag (Af 0) (Ag (JL.je (Ef (Ag (Eu (Ag (Af 1) (Ag (Eu Aj) Aj))) Aj))) Aj)))))))⟩
theorem AFv : Tf = Ba 1 1 Zq := by rfl
theorem AIw : Bk ["shelf"] ["shelf"] (BL Ws) := by walk_at "sc"
theorem ADx (UW : Def K mg "is_sound" Ws ["shelf"]) (T : Txt K mg CK) (cQ : Callee P w K mg base 2 "is_straight" ["shelf"] (BR K 1 T3)) (QK : Callee P w K mg base 2 "mended" ["shelf"] (Bw K 1 OJ)) : Callee P w K mg base 3 "is_sound" ["shelf"] (BR K 1 Tf) := by
  refine Def.Cy (AFv) UW AIw rfl rfl fun f c A o s H E hr => ?_
  have hu := Bv hr
  exact ⟨_, (Bc (Cg (Bt cQ (Br _ _ _) hr rfl (Ag (JL.je (Fq QK (Eo _ _ _) hr rfl (Ag (Af 0) Aj))) Aj))))⟩
theorem AFi : Ml = Ci 1 1 bD := by rfl
theorem ABK : Bk ["shelf"] ["shelf"] (BL Vt) := by walk_at "sc"
theorem ACb (Tu : Def K mg "rows_of" Vt ["shelf"]) (T : Txt K mg CK) (QK : Callee P w K mg base 2 "mended" ["shelf"] (Bw K 1 OJ)) : Callee P w K mg base 3 "rows_of" ["shelf"] (Bw K 1 Ml) := by
  refine Def.Hc (AFi) Tu ABK rfl rfl fun f c A o s H E hr => ?_
  have hu := Bv hr
  exact ⟨_, (Bc (Hy (Kr ["thing"] [] rfl (J0 rfl (JL.je (Fq QK (Eo _ _ _) hr rfl (Ag (Af 0) Aj)))) trivial (Jc (by decide)) (fun _ _ _ _ => JF (i := 0) (show (["thing"] : List Str).Nodup by decide +kernel) rfl (Or.inl rfl) (Or.inr rfl)) (fun _ _ _ _ => (T6 (DN (IK rfl hu) (Af 0) (Eu Aj) (Ce _)))) (fun _ _ _ _ => (Af 0)) rfl (by decide) (by decide) (Jh (by decide)))))⟩
theorem AAX : Gk = Ba 3 3 cO := by rfl
theorem AAL : Bk ["shelf", "first", "behind"] ["shelf", "first", "behind"] (BL Wd) := by walk_at "sc"
theorem ABv (VP : Def K mg "held" Wd ["shelf", "first", "behind"]) (T : Txt K mg CK)  : Callee P w K mg base 1 "held" ["shelf", "first", "behind"] (BR K 3 Gk) := by
  refine Def.Cy (AAX) VP AAL rfl rfl fun f c A o s H E hr => ?_
  have hu := Bv hr
  exact ⟨_, (Bc (Cg (Dv (GC rfl) (by rfl) T.Fz (by rfl) (Ag (JL.je (Kr ["place", "thing"] [(1, "first"), (2, "behind")] rfl (dB rfl rfl T.Z6 (Ag (Af 0) Aj)) ⟨⟨rfl, Or.inl rfl, Or.inl rfl⟩, ⟨⟨rfl, Or.inl rfl, Or.inl rfl⟩, trivial⟩⟩ (g8 (by decide) (by decide)) (fun _ _ _ _ => Zz (i := 0) (j := 1) rfl rfl (show (["place", "thing", "first", "behind"] : List Str).Nodup by decide +kernel) rfl (Or.inl rfl) rfl (Or.inl rfl) (Or.inr rfl) (Or.inr rfl)) (fun _ _ _ _ => (T6 (JW.jt (Qj (cH Kq Th (Af 2) (Af 0) (Af 3)) (QT (DN (IK rfl hu) (Af 1) (Eu Aj) (Ce _))))))) (fun _ _ _ _ => (Af 1)) rfl (by decide) (by decide) (by rfl))) Aj))))⟩
theorem AFX : MP = Ba 2 2 gQ := by rfl
theorem AHN : Bk ["number", "bound"] ["number", "bound"] (BL V5) := by walk_at "sc"
theorem AHA (Ti : Def K mg "beyond" V5 ["number", "bound"]) (T : Txt K mg CK)  : Callee P w K mg base 1 "beyond" ["number", "bound"] (BR K 2 MP) := by
  refine Def.Cy (AFX) Ti AHN rfl rfl fun f c A o s H E hr => ?_
  have hu := Bv hr
  exact ⟨_, (Bc (Cg (Dv (nR rfl) (by rfl) T.tD (by rfl) (Ag Ak (Ag (BJ Jd (Af 0) (Af 1)) Aj)))))⟩
theorem AAo : PQ = Ba 3 5 iJ := by rfl
theorem jB : Bk ["bounds", "level", "shelf", "size", "calm"] ["bounds", "level", "shelf"] (BL W7) := by walk_at "sc"
theorem AFr (Uj : Def K mg "excess_at" W7 ["bounds", "level", "shelf"]) (T : Txt K mg CK) (RP : Callee P w K mg base 2 "beyond" ["number", "bound"] (BR K 2 MP)) (d9 : Callee P w K mg base 2 "calm_of" ["bounds", "height"] (BR K 2 Tg)) (Jk : Callee P w K mg base 2 "held" ["shelf", "first", "behind"] (BR K 3 Gk)) (LC : Callee P w K mg base 2 "places_of" ["bounds", "height"] (BR K 2 Jt)) : Callee P w K mg base 3 "excess_at" ["bounds", "level", "shelf"] (BR K 3 PQ) := by
  refine Def.Cy (AAo) Uj jB rfl rfl fun f c A o s H E hr => ?_
  have hu := Bv hr
  exact ⟨_, (Bb (CZ (i := 3) jB.nd rfl (Or.inr rfl) (Bt LC (Br _ _ _) hr rfl (Ag (Af 0) (Ag (Af 1) Aj))))
    (Bb (CZ (i := 4) jB.nd rfl (Or.inr rfl) (Bt d9 (Br _ _ _) hr rfl (Ag (Af 0) (Ag (Af 1) Aj))))
    (Bc (Cg (Dv (xX rfl hr.hd) (by rfl) T.yZ (by rfl) (Ag (JL.je (Kr ["first"] [(4, "calm"), (2, "shelf"), (3, "size")] rfl (AIs rfl T.NK (Ag Ak (Ag (Dv (GC rfl) (by rfl) T.Fz (by rfl) (Ag (Af 2) Aj)) (Ag (Af 3) Aj)))) ⟨⟨rfl, Or.inl rfl, Or.inl rfl⟩, ⟨⟨rfl, Or.inl rfl, Or.inl rfl⟩, ⟨⟨rfl, Or.inl rfl, Or.inl rfl⟩, trivial⟩⟩⟩ (Jc (by decide)) (fun _ _ _ _ => JF (i := 0) (show (["first", "calm", "shelf", "size"] : List Str).Nodup by decide +kernel) rfl (Or.inl rfl) (Or.inr rfl)) (fun _ _ _ _ => KR) (fun _ _ _ _ => (Bt RP (Br _ _ _) hr rfl (Ag (Bt Jk (Br _ _ _) hr rfl (Ag (Af 2) (Ag (Af 0) (Ag (BJ Gf (Af 0) (Af 3)) Aj)))) (Ag (Af 1) Aj)))) rfl (by decide) (by decide) (by rfl))) Aj))))))⟩
theorem AJn : QR = Ba 3 3 aU := by rfl
theorem ACo : Bk ["bounds", "height", "shelf"] ["bounds", "height", "shelf"] (BL Ye) := by walk_at "sc"
theorem AAf (VL : Def K mg "excess_of" Ye ["bounds", "height", "shelf"]) (T : Txt K mg CK) (fQ : Callee P w K mg base 3 "excess_at" ["bounds", "level", "shelf"] (BR K 3 PQ)) : Callee P w K mg base 4 "excess_of" ["bounds", "height", "shelf"] (BR K 3 QR) := by
  refine Def.Cy (AJn) VL ACo rfl rfl fun f c A o s H E hr => ?_
  have hu := Bv hr
  exact ⟨_, (Bc (Cg (Dv (xX rfl hr.hd) (by rfl) T.yZ (by rfl) (Ag (JL.je (Kr ["level"] [(0, "bounds"), (2, "shelf")] rfl (Ru rfl T.NK (Ag (Af 1) Aj)) ⟨⟨rfl, Or.inl rfl, Or.inl rfl⟩, ⟨⟨rfl, Or.inl rfl, Or.inl rfl⟩, trivial⟩⟩ (Jc (by decide)) (fun _ _ _ _ => JF (i := 0) (show (["level", "bounds", "shelf"] : List Str).Nodup by decide +kernel) rfl (Or.inl rfl) (Or.inr rfl)) (fun _ _ _ _ => KR) (fun _ _ _ _ => (Bt fQ (Br _ _ _) hr rfl (Ag (Af 1) (Ag (Af 0) (Ag (Af 2) Aj))))) rfl (by decide) (by decide) (by rfl))) Aj))))⟩
theorem AFa : RV = Ba 3 4 dU := by rfl
theorem zR : Bk ["bounds", "height", "shelf", "lower_cap"] ["bounds", "height", "shelf"] (BL Xv) := by walk_at "sc"
theorem AAb (Rt : Def K mg "over_of" Xv ["bounds", "height", "shelf"]) (T : Txt K mg CK) (RP : Callee P w K mg base 2 "beyond" ["number", "bound"] (BR K 2 MP)) (Ji : Callee P w K mg base 2 "cap_of" ["bounds", "height"] (BR K 2 HD)) (Jk : Callee P w K mg base 2 "held" ["shelf", "first", "behind"] (BR K 3 Gk)) : Callee P w K mg base 3 "over_of" ["bounds", "height", "shelf"] (BR K 3 RV) := by
  refine Def.Cy (AFa) Rt zR rfl rfl fun f c A o s H E hr => ?_
  have hu := Bv hr
  exact ⟨_, (Bb (CZ (i := 3) zR.nd rfl (Or.inl rfl) (AEz (DN (HS rfl hu) (Af 1) Ak (Ce _)) Ak (Bt Ji (Br _ _ _) hr rfl (Ag (Af 0) (Ag (BJ Jd (Af 1) Ak) Aj)))))
    (Bc (Cg (Bt RP (Br _ _ _) hr rfl (Ag (Bt Jk (Br _ _ _) hr rfl (Ag (Af 2) (Ag Ak (Ag (Dv (GC rfl) (by rfl) T.Fz (by rfl) (Ag (Af 2) Aj)) Aj)))) (Ag (Af 3) Aj))))))⟩
theorem AJ9 : Ho = Ba 2 4 X5 := by rfl
theorem pL : Bk ["shelf", "key", "place", "thing"] ["shelf", "key"] (BL Xl) := by walk_at "sc"
theorem AI9 (UT : Def K mg "place_of" Xl ["shelf", "key"]) (T : Txt K mg CK)  : Callee P w K mg base 1 "place_of" ["shelf", "key"] (BR K 2 Ho) := by
  refine Def.Cy (AJ9) UT pL rfl rfl fun f c A o s H E hr => ?_
  have hu := Bv hr
  exact ⟨_, (Bb (Og PassesOwn.never rfl (dB rfl rfl T.Z6 (Ag (Af 0) Aj)) (iV (i := 2) (j := 3) rfl rfl pL.nd rfl (Or.inl rfl) rfl (Or.inl rfl))
      (Bc (Fd (JW.jt (Qj (DN (IK rfl hu) (Af 3) (Eu Aj) (Ce _)) (QT (DN (HS rfl hu) (CG rfl (Af 3) Ak (fun _ _ => rfl)) (Af 1) (Ce _)))))
        (Bc (Cg (Af 2))) Er)))
    (Bc (Cg Qx)))⟩
theorem nM : Bk ["bounds", "height", "shelf", "key", "amount", "place", "level"] ["bounds", "height", "shelf", "key", "amount"] (BL Vn) := by walk_at "sc"
theorem AHp (Rc : Def K mg "put_writes" Vn ["bounds", "height", "shelf", "key", "amount"]) (T : Txt K mg CK) (Ji : Callee P w K mg base 2 "cap_of" ["bounds", "height"] (BR K 2 HD)) (Jk : Callee P w K mg base 2 "held" ["shelf", "first", "behind"] (BR K 3 Gk)) (RW : Callee P w K mg base 2 "place_of" ["shelf", "key"] (BR K 2 Ho)) {wM : Addr} (AAt : mg "Full" = some (.ref wM)) (AFm : excIn K wM Hr "ValueError.__new__" = true) : Gd P w K mg base 3 "put_writes" ["bounds", "height", "shelf", "key", "amount"] (Dy K 5 mg Nq) := by
  refine Def.raises (G := V0) rfl Rc nM rfl rfl fun f c A o s H E hr => ?_
  have hu := Bv hr
  exact ⟨_, _, (K8 (Rp (CZ (i := 5) nM.nd rfl (Or.inl rfl) (Bt RW (Br _ _ _) hr rfl (Ag (Af 2) (Ag (Af 3) Aj)))))
    (K8 (Rp (Fd (DN ADP (Af 5) Qx (Ce _))
      (Bc (Hy (Ef (Ag (Eu (Ag (Af 5) (Ag (Eu (Ag (Af 3) (Ag (Af 4) Aj))) Aj))) Aj)))) Er))
    (K8 (yL (DN eZ (Bt Jk (Br _ _ _) hr rfl (Ag (Af 2) (Ag Ak (Ag (Dv (GC rfl) (by rfl) T.Fz (by rfl) (Ag (Af 2) Aj)) Aj)))) (Bt Ji (Br _ _ _) hr rfl (Ag (Af 0) (Ag (Af 1) Aj))) (Ce _)) (Xd (xO hr.hd rfl AAt AFm)) (m5 Er))
    XQ)))⟩
theorem qG : Bk ["shelf", "key", "place"] ["shelf", "key"] (BL Wg) := by walk_at "sc"
theorem AEa (Rh : Def K mg "take_writes" Wg ["shelf", "key"]) (T : Txt K mg CK) (RW : Callee P w K mg base 1 "place_of" ["shelf", "key"] (BR K 2 Ho)) {tY : Addr} (ABW : mg "NoKey" = some (.ref tY)) (ACR : excIn K tY Hr "ValueError.__new__" = true) : Gd P w K mg base 2 "take_writes" ["shelf", "key"] (Dy K 2 mg Pk) := by
  refine Def.raises (G := XC) rfl Rh qG rfl rfl fun f c A o s H E hr => ?_
  have hu := Bv hr
  exact ⟨_, _, (K8 (Rp (CZ (i := 2) qG.nd rfl (Or.inl rfl) (Bt RW (Br _ _ _) hr rfl (Ag (Af 0) (Ag (Af 1) Aj)))))
    (K8 (yL (DN dX (Af 2) Qx (Ce _)) (Xd (xO hr.hd rfl ABW ACR)) (m5 Er))
    XQ))⟩
theorem AJa : Mp = Ba 1 1 X3 := by rfl
theorem AEP : Bk ["thing"] ["thing"] (BL Y4) := by walk_at "sc"
theorem ACi (T7 : Def K mg "is_pair" Y4 ["thing"]) (T : Txt K mg CK) (N5 : Callee P w K mg base 1 "is_whole" ["thing"] (BR K 1 Ip)) : Callee P w K mg base 2 "is_pair" ["thing"] (BR K 1 Mp) := by
  refine Def.Cy (AJa) T7 AEP rfl rfl fun f c A o s H E hr => ?_
  have hu := Bv hr
  exact ⟨_, (Bc (Cg (Ia (Mh "tuple" rfl (by simp) rfl T.JK rfl T.jE (by rfl) (Af 0)) (Ia (Hz (HS rfl hu) (Dv (GC rfl) (by rfl) T.Fz (by rfl) (Ag (Af 0) Aj)) Ak (Ce _)) (Ia (Bt N5 (Br _ _ _) hr rfl (Ag (CG rfl (Af 0) Ak (fun _ _ => rfl)) Aj)) (Km (Bt N5 (Br _ _ _) hr rfl (Ag (CG rfl (Af 0) Ak (fun _ _ => rfl)) Aj))))))))⟩
theorem AIg : Ky = Ba 1 1 Ww := by rfl
theorem ADf : Bk ["thing"] ["thing"] (BL XD) := by walk_at "sc"
theorem AFg (U8 : Def K mg "is_place" XD ["thing"]) (T : Txt K mg CK) (Qc : Callee P w K mg base 2 "is_pair" ["thing"] (BR K 1 Mp)) : Callee P w K mg base 3 "is_place" ["thing"] (BR K 1 Ky) := by
  refine Def.Cy (AIg) U8 ADf rfl rfl fun f c A o s H E hr => ?_
  have hu := Bv hr
  exact ⟨_, (Bc (Cg (AFc (Bt Qc (Br _ _ _) hr rfl (Ag (Af 0) Aj)) (Km (Ia (Mh "tuple" rfl (by simp) rfl T.JK rfl T.jE (by rfl) (Af 0)) (Km (Hz (HS rfl hu) (Dv (GC rfl) (by rfl) T.Fz (by rfl) (Ag (Af 0) Aj)) Ak (Ce _))))))))⟩
theorem AJq : QL = Ba 2 2 Zu := by rfl
theorem ABa : Bk ["thing", "size"] ["thing", "size"] (BL YC) := by walk_at "sc"
theorem AFh (UG : Def K mg "is_area" YC ["thing", "size"]) (T : Txt K mg CK) (aA : Callee P w K mg base 3 "is_place" ["thing"] (BR K 1 Ky)) : Callee P w K mg base 4 "is_area" ["thing", "size"] (BR K 2 QL) := by
  refine Def.Cy (AJq) UG ABa rfl rfl fun f c A o s H E hr => ?_
  have hu := Bv hr
  exact ⟨_, (Bc (Cg (Ia (Mh "list" rfl (by simp) rfl T.JK rfl T.O5 (by rfl) (Af 0)) (Ia (Hz (HS rfl hu) (Dv (GC rfl) (by rfl) T.Fz (by rfl) (Ag (Af 0) Aj)) (Af 1) (Ce _)) (Km (Dv (iI rfl hr.hd) (by rfl) T.bO (by rfl) (Ag (JL.je (Kr ["place"] [] rfl (J0 rfl (Af 0)) trivial (Jc (by decide)) (fun _ _ _ _ => JF (i := 0) (show (["place"] : List Str).Nodup by decide +kernel) rfl (Or.inl rfl) (Or.inr rfl)) (fun _ _ _ _ => KR) (fun _ _ _ _ => (Bt aA (Br _ _ _) hr rfl (Ag (Af 0) Aj))) rfl (by decide) (by decide) (Jh (by decide)))) Aj)))))))⟩
theorem z8 : Vf = Ba 2 2 YG := by rfl
theorem AJO : Bk ["bounds", "thing"] ["bounds", "thing"] (BL YT) := by walk_at "sc"
theorem AI5 (Ul : Def K mg "is_sign" YT ["bounds", "thing"]) (T : Txt K mg CK) (Qc : Callee P w K mg base 2 "is_pair" ["thing"] (BR K 1 Mp)) : Callee P w K mg base 3 "is_sign" ["bounds", "thing"] (BR K 2 Vf) := by
  refine Def.Cy (z8) Ul AJO rfl rfl fun f c A o s H E hr => ?_
  have hu := Bv hr
  exact ⟨_, (Bc (Cg (Ia (Bt Qc (Br _ _ _) hr rfl (Ag (Af 1) Aj)) (Ia (oV Kq Kq Ak (CG rfl (Af 1) Ak (fun _ _ => rfl)) Ak) (Km (oV Kq Kq Ak (CG rfl (Af 1) Ak (fun _ _ => rfl)) (CG rfl (Af 0) Ak (fun _ _ => rfl))))))))⟩
theorem AId : RK = Ba 2 4 Zn := by rfl
theorem iH : Bk ["bounds", "thing", "size", "signs"] ["bounds", "thing"] (BL Yy) := by walk_at "sc"
theorem AGy (Ut : Def K mg "has_form" Yy ["bounds", "thing"]) (T : Txt K mg CK) (W4 : Callee P w K mg base 4 "is_area" ["thing", "size"] (BR K 2 QL)) (Zo : Callee P w K mg base 4 "is_sign" ["bounds", "thing"] (BR K 2 Vf)) (LC : Callee P w K mg base 4 "places_of" ["bounds", "height"] (BR K 2 Jt)) : Callee P w K mg base 5 "has_form" ["bounds", "thing"] (BR K 2 RK) := by
  refine Def.Cy (AId) Ut iH rfl rfl fun f c A o s H E hr => ?_
  have hu := Bv hr
  exact ⟨_, (Bb (Fd (JW.jt (Ny (J8 (KH (Mh "list" rfl (by simp) rfl T.JK rfl T.O5 (by rfl) (Af 1)) (fun _ => rfl))) (Oa (DN (IK rfl hu) (Dv (GC rfl) (by rfl) T.Fz (by rfl) (Ag (Af 1) Aj)) Ak (Ce _)))))
      (Bc (Cg IV)) Er)
    (Bb (CZ (i := 2) iH.nd rfl (Or.inl rfl) (Bt LC (Br _ _ _) hr rfl (Ag (Af 0) (Ag (CG rfl (Af 0) Ak (fun _ _ => rfl)) Aj))))
    (Bb (Fd (JW.jt (Ny (J8 (KH (Bt W4 (Br _ _ _) hr rfl (Ag (CG rfl (Af 1) Ak (fun _ _ => rfl)) (Ag (Af 2) Aj))) (fun _ => rfl))) (Oa (J8 (KH (Bt W4 (Br _ _ _) hr rfl (Ag (CG rfl (Af 1) Ak (fun _ _ => rfl)) (Ag (Af 2) Aj))) (fun _ => rfl))))))
      (Bc (Cg IV)) Er)
    (Bb (CZ (i := 3) iH.nd rfl (Or.inl rfl) (CG rfl (Af 1) (U7 (i := 2) rfl T.eX) (fun _ _ => rfl)))
    (Bc (Cg (Ia (Mh "list" rfl (by simp) rfl T.JK rfl T.O5 (by rfl) (Af 3)) (Ia (Hz (HS rfl hu) (Dv (GC rfl) (by rfl) T.Fz (by rfl) (Ag (Af 3) Aj)) Ak (Ce _)) (Km (Bt Zo (Br _ _ _) hr rfl (Ag (Af 0) (Ag (CG rfl (Af 3) Ak (fun _ _ => rfl)) Aj))))))))))))⟩
theorem AGM : Fy = Ba 1 1 bZ := by rfl
theorem AIS : Bk ["disk"] ["disk"] (BL W5) := by walk_at "sc"
theorem AGq (Tp : Def K mg "height_on" W5 ["disk"]) (T : Txt K mg CK)  : Callee P w K mg base 1 "height_on" ["disk"] (BR K 1 Fy) := by
  refine Def.Cy (AGM) Tp AIS rfl rfl fun f c A o s H E hr => ?_
  have hu := Bv hr
  exact ⟨_, (Bc (Cg (CG rfl (CG rfl (CG rfl (Af 0) (U7 (i := 2) rfl T.eX) (fun _ _ => rfl)) Ak (fun _ _ => rfl)) Ak (fun _ _ => rfl))))⟩
theorem AEc : Ik = Ba 1 1 iC := by rfl
theorem ABM : Bk ["disk"] ["disk"] (BL Xj) := by walk_at "sc"
theorem ACN (Ui : Def K mg "area_on" Xj ["disk"]) (T : Txt K mg CK)  : Callee P w K mg base 1 "area_on" ["disk"] (BR K 1 Ik) := by
  refine Def.Cy (AEc) Ui ABM rfl rfl fun f c A o s H E hr => ?_
  have hu := Bv hr
  exact ⟨_, (Bc (Cg (CG rfl (CG rfl (CG rfl (Af 0) (U7 (i := 2) rfl T.eX) (fun _ _ => rfl)) Ak (fun _ _ => rfl)) Ak (fun _ _ => rfl))))⟩
theorem AKR : Eb = Ci 2 2 kZ := by rfl
theorem AI0 : Bk ["bounds", "disk"] ["bounds", "disk"] (BL XM) := by walk_at "sc"
theorem ABz (T9 : Def K mg "shelf_on" XM ["bounds", "disk"]) (T : Txt K mg CK) (Ld : Callee P w K mg base 2 "area_on" ["disk"] (BR K 1 Ik)) (Gi : Callee P w K mg base 2 "height_on" ["disk"] (BR K 1 Fy)) (LC : Callee P w K mg base 2 "places_of" ["bounds", "height"] (BR K 2 Jt)) : Callee P w K mg base 3 "shelf_on" ["bounds", "disk"] (Bw K 2 Eb) := by
  refine Def.Hc (AKR) T9 AI0 rfl rfl fun f c A o s H E hr => ?_
  have hu := Bv hr
  exact ⟨_, (Bc (Hy (Wv rfl (CG rfl (Af 1) (Bt Ld (Br _ _ _) hr rfl (Ag (Af 1) Aj)) (fun _ _ => rfl)) Zb (S5 (Bt LC (Br _ _ _) hr rfl (Ag (Af 0) (Ag (Bt Gi (Br _ _ _) hr rfl (Ag (Af 1) Aj)) Aj)))))))⟩
theorem AGx : Ke = Ba 2 3 bV := by rfl
theorem sV : Bk ["bounds", "thing", "shelf"] ["bounds", "thing"] (BL Vm) := by walk_at "sc"
theorem ABm (Tj : Def K mg "is_disk" Vm ["bounds", "thing"]) (T : Txt K mg CK) (Ji : Callee P w K mg base 5 "cap_of" ["bounds", "height"] (BR K 2 HD)) (kO : Callee P w K mg base 5 "has_form" ["bounds", "thing"] (BR K 2 RK)) (Gi : Callee P w K mg base 5 "height_on" ["disk"] (BR K 1 Fy)) (dW : Callee P w K mg base 5 "is_sound" ["shelf"] (BR K 1 Tf)) (QJ : Callee P w K mg base 5 "rows_of" ["shelf"] (Bw K 1 Ml)) (Gn : Callee P w K mg base 5 "shelf_on" ["bounds", "disk"] (Bw K 2 Eb)) : Callee P w K mg base 6 "is_disk" ["bounds", "thing"] (BR K 2 Ke) := by
  refine Def.Cy (AGx) Tj sV rfl rfl fun f c A o s H E hr => ?_
  have hu := Bv hr
  exact ⟨_, (Bb (Fd (J8 (KH (Bt kO (Br _ _ _) hr rfl (Ag (Af 0) (Ag (Af 1) Aj))) (fun _ => rfl)))
      (Bc (Cg IV)) Er)
    (Bb (CZ (i := 2) sV.nd rfl (Or.inl rfl) (JL.je (Fq Gn (Eo _ _ _) hr rfl (Ag (Af 0) (Ag (Af 1) Aj)))))
    (Bc (Cg (Ia (Bt dW (Br _ _ _) hr rfl (Ag (Af 2) Aj)) (Km (Hz Kq (Dv (GC rfl) (by rfl) T.Fz (by rfl) (Ag (JL.je (Fq QJ (Eo _ _ _) hr rfl (Ag (Af 2) Aj))) Aj)) (Bt Ji (Br _ _ _) hr rfl (Ag (Af 0) (Ag (Bt Gi (Br _ _ _) hr rfl (Ag (Af 1) Aj)) Aj))) (Ce _))))))))⟩
theorem ACu : HH = runN 2 6 Uz := by rfl
theorem aO : Bk ["disk", "writes", "parts", "part", "place", "thing"] ["disk", "writes"] (BL XH) := by walk_at "sc"
theorem AIK (Rv : Def K mg "written" XH ["disk", "writes"]) (T : Txt K mg CK)  : Callee P w K mg base 1 "written" ["disk", "writes"] (Py K 2 HH) := by
  refine Def.AHd (ACu) Rv aO rfl rfl fun f c A o s H E hr => ?_
  have hu := Bv hr
  exact ⟨_, (Bb (ADM (i := 2) ["part"] [] aO.nd rfl (Or.inl rfl) rfl (J0 rfl (Af 0)) trivial (Jc (by decide)) (fun _ _ _ _ => JF (i := 0) (show (["part"] : List Str).Nodup by decide +kernel) rfl (Or.inl rfl) (Or.inr rfl)) (fun _ _ _ _ => KR) (fun _ _ _ _ => (fW (fZ rfl) (by rfl) T.O5 (by rfl) (Ag (Af 0) Aj))) rfl (by decide) (by decide) (Jh (by decide)) (by rfl))
    (Bb (Og PassesOwn.never rfl (J0 rfl (Af 1)) (AGW (i := 3) (j := 4) (l := 5) rfl rfl aO.nd rfl (Or.inl rfl) rfl (Or.inl rfl) rfl (Or.inl rfl))
      (Bc (AEl 2 (Af 5) rfl (Af 3) (Af 4) (fun _ _ => rfl))))
    (Bc (AH7 2))))⟩
theorem AFY : Ln = Ci 2 2 eU := by rfl
theorem AIv : Bk ["area", "writes"] ["area", "writes"] (BL Yv) := by walk_at "sc"
theorem AAz (Ub : Def K mg "on_area" Yv ["area", "writes"]) (T : Txt K mg CK)  : Callee P w K mg base 1 "on_area" ["area", "writes"] (Bw K 2 Ln) := by
  refine Def.Hc (AFY) Ub AIv rfl rfl fun f c A o s H E hr => ?_
  have hu := Bv hr
  exact ⟨_, (Bc (Hy (Kr ["place", "thing"] [(0, "area")] rfl (J0 rfl (Af 1)) ⟨⟨rfl, Or.inl rfl, Or.inl rfl⟩, trivial⟩ (g8 (by decide) (by decide)) (fun _ _ _ _ => Zz (i := 0) (j := 1) rfl rfl (show (["place", "thing", "area"] : List Str).Nodup by decide +kernel) rfl (Or.inl rfl) rfl (Or.inl rfl) (Or.inr rfl) (Or.inr rfl)) (fun _ _ _ _ => KR) (fun _ _ _ _ => (Eu (Ag (Af 2) (Ag (Af 0) (Ag (Af 1) Aj))))) rfl (by decide) (by decide) (by rfl))))⟩
theorem AAl : Pa = Ba 3 5 VB := by rfl
theorem j5 : Bk ["bounds", "disk", "key", "shelf", "height"] ["bounds", "disk", "key"] (BL Xn) := by walk_at "sc"
theorem AGV (Uy : Def K mg "must_grow" Xn ["bounds", "disk", "key"]) (T : Txt K mg CK) (Ji : Callee P w K mg base 3 "cap_of" ["bounds", "height"] (BR K 2 HD)) (Gi : Callee P w K mg base 3 "height_on" ["disk"] (BR K 1 Fy)) (Jk : Callee P w K mg base 3 "held" ["shelf", "first", "behind"] (BR K 3 Gk)) (Gn : Callee P w K mg base 3 "shelf_on" ["bounds", "disk"] (Bw K 2 Eb)) : Callee P w K mg base 4 "must_grow" ["bounds", "disk", "key"] (BR K 3 Pa) := by
  refine Def.Cy (AAl) Uy j5 rfl rfl fun f c A o s H E hr => ?_
  have hu := Bv hr
  exact ⟨_, (Bb (CZ (i := 3) j5.nd rfl (Or.inl rfl) (JL.je (Fq Gn (Eo _ _ _) hr rfl (Ag (Af 0) (Ag (Af 1) Aj)))))
    (Bb (CZ (i := 4) j5.nd rfl (Or.inl rfl) (Bt Gi (Br _ _ _) hr rfl (Ag (Af 1) Aj)))
    (Bb (Fd (JW.jt (Ny (DN (HS rfl hu) (Af 4) (CG rfl (Af 0) Ak (fun _ _ => rfl)) (Ce _)) (Oa (DN Th (Bt Jk (Br _ _ _) hr rfl (Ag (Af 3) (Ag Ak (Ag (Dv (GC rfl) (by rfl) T.Fz (by rfl) (Ag (Af 3) Aj)) Aj)))) (Bt Ji (Br _ _ _) hr rfl (Ag (Af 0) (Ag (Af 4) Aj))) (Ce _)))))
      (Bc (Cg IV)) Er)
    cM)))⟩
theorem AJk : Nh = Ci 3 9 VM := by rfl
theorem AJK : Bk ["bounds", "disk", "key", "other", "height", "things", "aims", "clearing", "laying"] ["bounds", "disk", "key"] (BL Wl) := by walk_at "sc"
theorem AH9 (Rq : Def K mg "growing_writes" Wl ["bounds", "disk", "key"]) (T : Txt K mg CK) (gK : Callee P w K mg base 4 "must_grow" ["bounds", "disk", "key"] (BR K 3 Pa)) : Callee P w K mg base 5 "growing_writes" ["bounds", "disk", "key"] (Bw K 3 Nh) := by
  refine Def.Hc (AJk) Rq AJK rfl rfl fun f c A o s H E hr => ?_
  have hu := Bv hr
  exact ⟨_, (Bb (Fd (J8 (KH (Bt gK (Br _ _ _) hr rfl (Ag (Af 0) (Ag (Af 1) (Ag (Af 2) Aj)))) (fun _ => rfl)))
      (Bc (Hy (Ef Aj))) Er)
    cM)⟩
theorem WQ : Bk ["bounds", "disk", "key", "amount", "growing", "grown", "putting"] ["bounds", "disk", "key", "amount"] (BL Wy) := by walk_at "sc"
theorem ACz (Q9 : Def K mg "disk_put" Wy ["bounds", "disk", "key", "amount"]) (T : Txt K mg CK) (jO : Callee P w K mg base 5 "growing_writes" ["bounds", "disk", "key"] (Bw K 3 Nh)) (Gi : Callee P w K mg base 5 "height_on" ["disk"] (BR K 1 Fy)) (dZ : Callee P w K mg base 5 "put_writes" ["bounds", "height", "shelf", "key", "amount"] (Bw K 5 R1)) (Gn : Callee P w K mg base 5 "shelf_on" ["bounds", "disk"] (Bw K 2 Eb)) (K9 : Callee P w K mg base 5 "written" ["disk", "writes"] (Py K 2 HH)) (cT : Gd P w K mg base 5 "put_writes" ["bounds", "height", "shelf", "key", "amount"] (Dy K 5 mg Nq))  : Gd P w K mg base 6 "disk_put" ["bounds", "disk", "key", "amount"] (Dy K 4 mg Nt) := by
  refine Def.raises (G := Wn) rfl Q9 WQ rfl rfl fun f c A o s H E hr => ?_
  have hu := Bv hr
  exact ⟨_, _, (K8 (Rp (CZ (i := 4) WQ.nd rfl (Or.inl rfl) (JL.je (Fq jO (Eo _ _ _) hr rfl (Ag (Af 0) (Ag (Af 1) (Ag (Af 2) Aj)))))))
    (K8 (Rp (CZ (i := 5) WQ.nd rfl (Or.inl rfl) (JL.je (JN.jl (aF K9 (cW _ _ _) hr rfl (Ag (Af 1) (Ag (Af 4) Aj)))))))
    (K8 (rY (i := 6) WQ.nd rfl (Or.inl rfl) (We dZ cT (Yb _) (M3 _ _ _) hr rfl (Ag (Af 0) (Ag (Bt Gi (Br _ _ _) hr rfl (Ag (Af 5) Aj)) (Ag (JL.je (Fq Gn (Eo _ _ _) hr rfl (Ag (Af 0) (Ag (Af 5) Aj)))) (Ag (Af 2) (Ag (Af 3) Aj)))))))
    XQ)))⟩
theorem AIa : Bk ["bounds", "disk", "key"] ["bounds", "disk", "key"] (BL ZC) := by walk_at "sc"
theorem ACm (Ql : Def K mg "disk_take" ZC ["bounds", "disk", "key"]) (T : Txt K mg CK) (Ld : Callee P w K mg base 3 "area_on" ["disk"] (BR K 1 Ik)) (Qq : Callee P w K mg base 3 "on_area" ["area", "writes"] (Bw K 2 Ln)) (Gn : Callee P w K mg base 3 "shelf_on" ["bounds", "disk"] (Bw K 2 Eb)) (cN : Callee P w K mg base 3 "take_writes" ["shelf", "key"] (Bw K 2 lF)) (ZL : Gd P w K mg base 3 "take_writes" ["shelf", "key"] (Dy K 2 mg Pk))  : Gd P w K mg base 4 "disk_take" ["bounds", "disk", "key"] (Dy K 3 mg K3) := by
  refine Def.raises (G := uN) rfl Ql AIa rfl rfl fun f c A o s H E hr => ?_
  have hu := Bv hr
  exact ⟨_, _, (Xd (AFW (ACH Qq (Eo _ _ _) hr rfl (zZ (Bt Ld (Br _ _ _) hr rfl (Ag (Af 1) Aj)) (ADu (Kf.jex (We cN ZL (Yb _) (M3 _ _ _) hr rfl (Ag (JL.je (Fq Gn (Eo _ _ _) hr rfl (Ag (Af 0) (Ag (Af 1) Aj)))) (Ag (Af 2) Aj)))))))))⟩
theorem ACw : R0 = Ci 2 3 fJ := by rfl
theorem pR : Bk ["bounds", "disk", "second"] ["bounds", "disk"] (BL Xe) := by walk_at "sc"
theorem AAj (TJ : Def K mg "mending_writes" Xe ["bounds", "disk"]) (T : Txt K mg CK) (Ld : Callee P w K mg base 3 "area_on" ["disk"] (BR K 1 Ik)) (Qq : Callee P w K mg base 3 "on_area" ["area", "writes"] (Bw K 2 Ln)) (QH : Callee P w K mg base 3 "second_place" ["shelf"] (BR K 1 J6)) (Gn : Callee P w K mg base 3 "shelf_on" ["bounds", "disk"] (Bw K 2 Eb)) : Callee P w K mg base 4 "mending_writes" ["bounds", "disk"] (Bw K 2 R0) := by
  refine Def.Hc (ACw) TJ pR rfl rfl fun f c A o s H E hr => ?_
  have hu := Bv hr
  exact ⟨_, (Bb (CZ (i := 2) pR.nd rfl (Or.inl rfl) (Bt QH (Br _ _ _) hr rfl (Ag (JL.je (Fq Gn (Eo _ _ _) hr rfl (Ag (Af 0) (Ag (Af 1) Aj)))) Aj)))
    (Bb (Fd (DN dX (Af 2) Qx (Ce _))
      (Bc (Hy (Ef Aj))) Er)
    (Bc (Hy (Fq Qq (Eo _ _ _) hr rfl (Ag (Bt Ld (Br _ _ _) hr rfl (Ag (Af 1) Aj)) (Ag (JL.je (Ef (Ag (Eu (Ag (Af 2) (Ag (Eu Aj) Aj))) Aj))) Aj)))))))⟩
theorem AEf : Kl = Ci 1 1 jW := by rfl
theorem ABO : Bk ["self"] ["self"] (BL Xm) := by walk_at "sc"
theorem AKQ (S9 : Cz K CK "shelf" "Keeper.shelf" Xm ["self"]) (T : Txt K mg CK) (Gn : Callee P w K mg base 3 "shelf_on" ["bounds", "disk"] (Bw K 2 Eb)) : Dg P w K mg base 4 CK "shelf" ["self"] (Bw K 1 Kl) := by
  refine Cz.Hc (AEf) S9 ABO rfl rfl fun f c A o s H E hr => ?_
  have hu := Bv hr
  exact ⟨_, (Bc (Hy (Fq Gn (Eo _ _ _) hr rfl (Ag (G6 rfl T.Jp (Af 0)) (Ag (G6 rfl T.Jo (Af 0)) Aj)))))⟩
theorem AGc : Lx = Ba 1 1 bK := by rfl
theorem ACv : Bk ["self"] ["self"] (BL YS) := by walk_at "sc"
theorem AH3 (Us : Cz K CK "excess" "Keeper.excess" YS ["self"]) (T : Txt K mg CK) (Kz : Dg P w K mg base 4 CK "shelf" ["self"] (Bw K 1 Kl)) (fU : Callee P w K mg base 4 "excess_of" ["bounds", "height", "shelf"] (BR K 3 QR)) (Gi : Callee P w K mg base 4 "height_on" ["disk"] (BR K 1 Fy)) : Dg P w K mg base 5 CK "excess" ["self"] (BR K 1 Lx) := by
  refine Cz.Cy (AGc) Us ACv rfl rfl fun f c A o s H E hr => ?_
  have hu := Bv hr
  exact ⟨_, (Bc (Cg (Bt fU (Br _ _ _) hr rfl (Ag (G6 rfl T.Jp (Af 0)) (Ag (Bt Gi (Br _ _ _) hr rfl (Ag (G6 rfl T.Jo (Af 0)) Aj)) (Ag (JL.je (U6 rfl T.ob.ns T.ob.cl Kz (Eo _ _ _) hr (Af 0))) Aj))))))⟩
theorem AKM : Ls = Ba 1 1 jR := by rfl
theorem AAp : Bk ["self"] ["self"] (BL Y5) := by walk_at "sc"
theorem ABJ (TX : Cz K CK "over" "Keeper.over" Y5 ["self"]) (T : Txt K mg CK) (Kz : Dg P w K mg base 4 CK "shelf" ["self"] (Bw K 1 Kl)) (Gi : Callee P w K mg base 4 "height_on" ["disk"] (BR K 1 Fy)) (Z3 : Callee P w K mg base 4 "over_of" ["bounds", "height", "shelf"] (BR K 3 RV)) : Dg P w K mg base 5 CK "over" ["self"] (BR K 1 Ls) := by
  refine Cz.Cy (AKM) TX AAp rfl rfl fun f c A o s H E hr => ?_
  have hu := Bv hr
  exact ⟨_, (Bc (Cg (Bt Z3 (Br _ _ _) hr rfl (Ag (G6 rfl T.Jp (Af 0)) (Ag (Bt Gi (Br _ _ _) hr rfl (Ag (G6 rfl T.Jo (Af 0)) Aj)) (Ag (JL.je (U6 rfl T.ob.ns T.ob.cl Kz (Eo _ _ _) hr (Af 0))) Aj))))))⟩
theorem AJJ : QD = runM 2 2 Ro := by rfl
theorem AFM : Bk ["self", "disk"] ["self", "disk"] (BL Vl) := by walk_at "sc"
theorem AHr (VR : Cz K CK "come_up" "Keeper.come_up" Vl ["self", "disk"]) (T : Txt K mg CK) (RX : Dg P w K mg base 5 CK "excess" ["self"] (BR K 1 Lx)) (Q7 : Dg P w K mg base 5 CK "over" ["self"] (BR K 1 Ls)) (bR : Callee P w K mg base 5 "mending_writes" ["bounds", "disk"] (Bw K 2 R0)) (K9 : Callee P w K mg base 5 "written" ["disk", "writes"] (Py K 2 HH)) : Dg P w K mg base 6 CK "come_up" ["self", "disk"] (Js K 2 QD) := by
  refine Cz.oW (AJJ) VR AFM rfl rfl fun f c A o s H E hr => ?_
  have hu := Bv hr
  exact ⟨_, (Bb (AJA 0 rfl T.Jo (pv 0) (aF K9 (cW _ _ _) hr rfl (Ag (Af 1) (Ag (JL.je (Fq bR (Eo _ _ _) hr rfl (Ag (G6 rfl T.Jp (Af 0)) (Ag (Af 1) Aj)))) Aj))))
    (Bb (YF 0 rfl T.Qh (pv 0) Ak)
    (Bb (YF 0 rfl T.Q5 (pv 0) Ak)
    (Bb (YF 0 rfl T.QM (pv 0) Ak)
    (Bb (zK 0 rfl T.Q6 (pv 0) (Rx rfl T.ob.ns T.ob.cl RX (Br _ _ _) hr (Af 0)))
    (Bc (zK 0 rfl T.Rj (pv 0) (Rx rfl T.ob.ns T.ob.cl Q7 (Br _ _ _) hr (Af 0)))))))))⟩
theorem AH1 : Kp = runM 3 3 T5 := by rfl
theorem AJB : Bk ["self", "bounds", "disk"] ["self", "bounds", "disk"] (BL Xh) := by walk_at "sc"
theorem AHc (UJ : Cz K CK "__init__" "Keeper.__init__" Xh ["self", "bounds", "disk"]) (T : Txt K mg CK) (bF : Dg P w K mg base 6 CK "come_up" ["self", "disk"] (Js K 2 QD)) (aM : Callee P w K mg base 6 "is_bounds" ["thing"] (BR K 1 Ku)) (eG : Callee P w K mg base 6 "is_disk" ["bounds", "thing"] (BR K 2 Ke)) : Dg P w K mg base 7 CK "__init__" ["self", "bounds", "disk"] (Js K 3 Kp) := by
  refine Cz.oW (AH1) UJ AJB rfl rfl fun f c A o s H E hr => ?_
  have hu := Bv hr
  exact ⟨_, (Bb (Fd (J8 (KH (Bt aM (Br _ _ _) hr rfl (Ag (Af 1) Aj)) (fun _ => rfl)))
      (Bc (yC)) Er)
    (Bb (Fd (J8 (KH (Bt eG (Br _ _ _) hr rfl (Ag (Af 1) (Ag (Af 2) Aj))) (fun _ => rfl)))
      (Bc (yC)) Er)
    (Bb (YF 0 rfl T.Jp (pv 0) (Af 1))
    (Bc (AGN (AAm (i := 0) rfl T.ob.ns T.ob.cl bF (zA _ _ _) hr (pv 0) (Ag (Af 2) Aj)))))))⟩
theorem vO : Bk ["self", "key", "amount", "most", "writes", "growing", "new", "laid", "many"] ["self", "key", "amount", "most"] (BL S8) := by walk_at "sc"
theorem vI (T : Txt K mg CK) (Wo : Callee P w K mg base 6 "disk_put" ["bounds", "disk", "key", "amount"] (Bw K 4 WM)) {ds : List Value} (XF : Gd P w K mg base 6 "disk_put" ["bounds", "disk", "key", "amount"] (Dy K 4 mg Nt))  (AHU : JQ K CK "put" "Keeper.put" S8 ["self", "key", "amount", "most"] ds) : HN P w K mg base 7 CK "put" ["self", "key", "amount", "most"] ds (Dy K 4 mg Ir) := by
  refine JQ.raises (G := Wq) rfl AHU vO rfl rfl fun f c A o s H E hr => ?_
  have hu := Bv hr
  exact ⟨_, _, (K8 (rY (i := 4) vO.nd rfl (Or.inl rfl) (We Wo XF (Yb _) (M3 _ _ _) hr rfl (Ag (G6 rfl T.Jp (Af 0)) (Ag (G6 rfl T.Jo (Af 0)) (Ag (Af 1) (Ag (Af 2) Aj))))))
    XQ)⟩
theorem AFu : Bk ["self", "key", "most"] ["self", "key", "most"] (BL Ur) := by walk_at "sc"
theorem oH (T : Txt K mg CK) (Xg : Callee P w K mg base 4 "disk_take" ["bounds", "disk", "key"] (Bw K 3 j6)) {ds : List Value} (Q4 : Cz K CK "do_writes" "Keeper.do_writes" bM ["self", "writes", "most"]) (Yo : Gd P w K mg base 4 "disk_take" ["bounds", "disk", "key"] (Dy K 3 mg K3))  (AGY : JQ K CK "take" "Keeper.take" Ur ["self", "key", "most"] ds) : HN P w K mg base 5 CK "take" ["self", "key", "most"] ds (Dy K 3 mg Ii) := by
  refine JQ.raises (G := vC) rfl AGY AFu rfl rfl fun f c A o s H E hr => ?_
  have hu := Bv hr
  exact ⟨_, _, (Xd (AIV (AJ0 rfl T.ob.ns T.ob.cl Q4 hr (Af 0) (pC (Kf.AEO (We Xg Yo (Yb _) (M3 _ _ _) hr rfl (Ag (G6 rfl T.Jp (Af 0)) (Ag (G6 rfl T.Jo (Af 0)) (Ag (Af 1) Aj))))) (pC (AGw (Af 2)) ADs)))))⟩
theorem AFf : QZ = Ci 1 1 ZP := by rfl
theorem AG2 : Bk ["self"] ["self"] (BL Y8) := by walk_at "sc"
theorem AJh (R9 : Cz K CK "rows" "Keeper.rows" Y8 ["self"]) (T : Txt K mg CK) (Kz : Dg P w K mg base 4 CK "shelf" ["self"] (Bw K 1 Kl)) (QJ : Callee P w K mg base 4 "rows_of" ["shelf"] (Bw K 1 Ml)) : Dg P w K mg base 5 CK "rows" ["self"] (Bw K 1 QZ) := by
  refine Cz.Hc (AFf) R9 AG2 rfl rfl fun f c A o s H E hr => ?_
  have hu := Bv hr
  exact ⟨_, (Bc (Hy (Fq QJ (Eo _ _ _) hr rfl (Ag (JL.je (U6 rfl T.ob.ns T.ob.cl Kz (Eo _ _ _) hr (Af 0))) Aj))))⟩
theorem ABd : R6 = Ci 1 1 fV := by rfl
theorem ADm : Bk ["self"] ["self"] (BL ZJ) := by walk_at "sc"
theorem AIk (U0 : Cz K CK "disk" "Keeper.disk" ZJ ["self"]) (T : Txt K mg CK) (K9 : Callee P w K mg base 1 "written" ["disk", "writes"] (Py K 2 HH)) : Dg P w K mg base 2 CK "disk" ["self"] (Bw K 1 R6) := by
  refine Cz.Hc (ABd) U0 ADm rfl rfl fun f c A o s H E hr => ?_
  have hu := Bv hr
  exact ⟨_, (Bc (Hy (JN.jl (aF K9 (cW _ _ _) hr rfl (Ag (G6 rfl T.Jo (Af 0)) (Ag (JL.je (Ef Aj)) Aj))))))⟩
theorem AIX : VN = Ba 1 1 bQ := by rfl
theorem ADY : Bk ["self"] ["self"] (BL Wc) := by walk_at "sc"
theorem ABk (Tv : Cz K CK "counts" "Keeper.counts" Wc ["self"]) (T : Txt K mg CK)  : Dg P w K mg base 1 CK "counts" ["self"] (BR K 1 VN) := by
  refine Cz.Cy (AIX) Tv ADY rfl rfl fun f c A o s H E hr => ?_
  have hu := Bv hr
  exact ⟨_, (Bc (Cg (Eu (Ag (G6 rfl T.Qh (Af 0)) (Ag (G6 rfl T.Q5 (Af 0)) (Ag (G6 rfl T.QM (Af 0)) (Ag (G6 rfl T.Q6 (Af 0)) (Ag (G6 rfl T.Rj (Af 0)) Aj))))))))⟩
theorem AFO : Nj = Ba 2 2 X6 := by rfl
theorem ADR : Bk ["script", "k"] ["script", "k"] (BL Yx) := by walk_at "sc"
theorem AIq (U9 : Def K mg "_law_cell" Yx ["script", "k"]) (T : Txt K mg CK)  : Callee P w K mg base 1 "_law_cell" ["script", "k"] (BR K 2 Nj) := by
  refine Def.Cy (AFO) U9 ADR rfl rfl fun f c A o s H E hr => ?_
  have hu := Bv hr
  exact ⟨_, (Bb (Fd (DN Th (Af 1) (Dv (GC rfl) (by rfl) T.Fz (by rfl) (Ag (Af 0) Aj)) (Ce _))
      (Bc (Cg (CG rfl (Af 0) (Af 1) (fun _ _ => rfl)))) Er)
    (Bc (Cg Ak)))⟩
theorem AEw : J5 = Ba 1 2 jF := by rfl
theorem pZ : Bk ["cell", "number"] ["cell"] (BL Y9) := by walk_at "sc"
theorem AFL (Va : Def K mg "_law_spread" Y9 ["cell"]) (T : Txt K mg CK)  : Callee P w K mg base 1 "_law_spread" ["cell"] (BR K 1 J5) := by
  refine Def.Cy (AEw) Va pZ rfl rfl fun f c A o s H E hr => ?_
  have hu := Bv hr
  exact ⟨_, (Bb (CZ (i := 1) pZ.nd rfl (Or.inl rfl) (BJ Cj (BJ Ew (BJ Gf (BJ Cj (Af 0) Ak) Ak) Ak) Ak))
    (Bc (Cg (BJ Gf (BJ Cj (BJ Ew (Af 1) (Af 1)) Ak) (BJ Ew (BJ Cj (Af 0) (BJ PJ Ak Ak)) Ak)))))⟩
theorem AJX : Mt = Ba 2 3 iZ := by rfl
theorem cC : Bk ["cell", "k", "number"] ["cell", "k"] (BL Vu) := by walk_at "sc"
theorem ADo (Te : Def K mg "_law_mixed" Vu ["cell", "k"]) (T : Txt K mg CK)  : Callee P w K mg base 1 "_law_mixed" ["cell", "k"] (BR K 2 Mt) := by
  refine Def.Cy (AJX) Te cC rfl rfl fun f c A o s H E hr => ?_
  have hu := Bv hr
  exact ⟨_, (Bb (CZ (i := 2) cC.nd rfl (Or.inl rfl) (BJ Cj (BJ Ew (BJ Gf (BJ Cj (Af 0) Ak) Ak) Ak) Ak))
    (Bb (CZ (i := 2) cC.nd rfl (Or.inl rfl) (BJ Cj (BJ Gf (BJ Gf (BJ Ew (Af 2) (Af 2)) (BJ Ew (Af 1) Ak)) Ak) Ak))
    (Bc (Cg (BJ Cj (BJ Ew (Af 2) (Af 2)) Ak)))))⟩
theorem ACk : PN = Ba 1 6 Z4 := by rfl
theorem RC : Bk ["cell", "number", "top", "step", "low", "more"] ["cell"] (BL Vz) := by walk_at "sc"
theorem zW (U3 : Def K mg "_law_bounds" Vz ["cell"]) (T : Txt K mg CK) (Oe : Callee P w K mg base 1 "_law_spread" ["cell"] (BR K 1 J5)) : Callee P w K mg base 2 "_law_bounds" ["cell"] (BR K 1 PN) := by
  refine Def.Cy (ACk) U3 RC rfl rfl fun f c A o s H E hr => ?_
  have hu := Bv hr
  exact ⟨_, (Bb (CZ (i := 1) RC.nd rfl (Or.inl rfl) (Bt Oe (Br _ _ _) hr rfl (Ag (Af 0) Aj)))
    (Bb (CZ (i := 2) RC.nd rfl (Or.inl rfl) (CG rfl (JL.je (Ef (Ag Ak (Ag Ak (Ag Ak (Ag Ak (Ag Ak (Ag Ak (Ag Ak (Ag Ak Aj)))))))))) (BJ Cj (Af 1) Ak) (fun _ _ => rfl)))
    (Bb (CZ (i := 3) RC.nd rfl (Or.inl rfl) (BJ Gf Ak (BJ Cj (BJ GD (Af 1) Ak) (BJ GD Ak (BJ Gf (Af 2) Ak)))))
    (Bb (CZ (i := 4) RC.nd rfl (Or.inl rfl) (BJ Ew (Af 3) (BJ Gf (Af 2) Ak)))
    (Bb (CZ (i := 5) RC.nd rfl (Or.inl rfl) (CG rfl (JL.je (Ef (Ag (BJ Cj (BJ GD (Af 1) Ak) Ak) (Ag (BJ Cj (BJ GD (Af 1) Ak) Ak) Aj)))) (BJ Cj (BJ GD (Af 1) Ak) Ak) (fun _ _ => rfl)))
    (Bc (Cg (Eu (Ag (Af 2) (Ag (BJ Gf (Af 4) (BJ Cj (Af 5) (BJ Jd Ak (Af 4)))) (Ag (Af 3) Aj)))))))))))⟩
theorem ADa : Jz = Ba 1 1 m9 := by rfl
theorem ABh : Bk ["height"] ["height"] (BL Wa) := by walk_at "sc"
theorem AIA (Rr : Def K mg "_law_two" Wa ["height"]) (T : Txt K mg CK)  : Callee P w K mg base 1 "_law_two" ["height"] (BR K 1 Jz) := by
  refine Def.Cy (ADa) Rr ABh rfl rfl fun f c A o s H E hr => ?_
  have hu := Bv hr
  exact ⟨_, (Bc (Cg (CG rfl (JL.je (Ef (Ag Ak (Ag Ak (Ag Ak (Ag Ak (Ag Ak Aj))))))) (Af 0) (fun _ _ => rfl))))⟩
theorem AJx : M5 = Ci 4 9 Z9 := by rfl
theorem Ri : Bk ["bounds", "height", "cell", "many", "size", "left", "shelf", "k", "amount"] ["bounds", "height", "cell", "many"] (BL Xr) := by walk_at "sc"
theorem ACc (Sw : Def K mg "_law_filled" Xr ["bounds", "height", "cell", "many"]) (T : Txt K mg CK) (Nx : Callee P w K mg base 1 "_law_mixed" ["cell", "k"] (BR K 2 Mt)) (Lb : Callee P w K mg base 1 "_law_two" ["height"] (BR K 1 Jz)) : Callee P w K mg base 2 "_law_filled" ["bounds", "height", "cell", "many"] (Bw K 4 M5) := by
  refine Def.Hc (AJx) Sw Ri rfl rfl fun f c A o s H E hr => ?_
  have hu := Bv hr
  exact ⟨_, (Bb (CZ (i := 4) Ri.nd rfl (Or.inl rfl) (BJ Ew (Bt Lb (Br _ _ _) hr rfl (Ag (Af 1) Aj)) (CG rfl (Af 0) Ak (fun _ _ => rfl))))
    (Bb (jQ (i := 5) Ri.nd rfl (Or.inl rfl) (ABT hr.hd rfl T.O5 rfl T.NK (Ag (Af 4) Aj)))
    (Bb (ADV 1000000 PassesOwn.never (DN Vc (Dv (GC rfl) (by rfl) T.Fz (by rfl) (Ag (Af 5) Aj)) (Dv (nR rfl) (by rfl) T.tD (by rfl) (Ag Ak (Ag (Af 3) Aj))) (Ce _))
      (Bc (ACr 5 (BJ Cj (BJ GD (Bt Nx (Br _ _ _) hr rfl (Ag (Af 2) (Ag (Dv (GC rfl) (by rfl) T.Fz (by rfl) (Ag (Af 5) Aj)) Aj))) Ak) (Dv (GC rfl) (by rfl) T.Fz (by rfl) (Ag (Af 5) Aj))) rfl)))
    (Bb (WT (i := 6) vL gW ["place"] [] Ri.nd rfl (Or.inl rfl) rfl (Ru rfl T.NK (Ag (Af 4) Aj)) trivial (Jc (by decide)) (fun _ _ _ _ => JF (i := 0) (show (["place"] : List Str).Nodup by decide +kernel) rfl (Or.inl rfl) (Or.inr rfl)) (fun _ _ _ _ => KR) (fun _ _ _ _ => (Eu Aj)) rfl (by decide) (by decide) (Jh (by decide)) (by rfl))
    (Bb (AAv PassesOwn.never rfl rfl T.NK (Ag (Dv (GC rfl) (by rfl) T.Fz (by rfl) (Ag (Af 5) Aj)) Aj) (Wx (i := 7) Ri.nd rfl (Or.inl rfl))
      (Bb (CZ (i := 8) Ri.nd rfl (Or.inl rfl) (BJ Jd (BJ Cj (Bt Nx (Br _ _ _) hr rfl (Ag (Af 2) (Ag (Af 7) Aj))) (CG rfl (JL.je (Ef (Ag (BJ PJ Ak Ak) (Ag Ak Aj)))) (BJ Cj (Af 7) Ak) (fun _ _ => rfl))) Ak))
      (Bc (uM 6 (Eu (Ag (BJ Jd (BJ Ew (BJ Ew Ak (Af 7)) (CG rfl (JL.je (Ef (Ag Ak (Ag (BJ PJ Ak Ak) Aj)))) (BJ Cj (Af 2) Ak) (fun _ _ => rfl))) (BJ Cj (Af 2) (BJ PJ Ak Ak))) (Ag (Af 8) Aj))) (CG rfl (Af 5) (Af 7) (fun _ _ => rfl))))))
    (Bc (jX 6)))))))⟩
theorem AHe : Ms = Ci 4 8 Zt := by rfl
theorem QS : Bk ["cell", "k", "size", "things", "area", "place", "number", "key"] ["cell", "k", "size", "things"] (BL Xp) := by walk_at "sc"
theorem AAS (S6 : Def K mg "_law_area" Xp ["cell", "k", "size", "things"]) (T : Txt K mg CK) (Nx : Callee P w K mg base 1 "_law_mixed" ["cell", "k"] (BR K 2 Mt)) : Callee P w K mg base 2 "_law_area" ["cell", "k", "size", "things"] (Bw K 4 Ms) := by
  refine Def.Hc (AHe) S6 QS rfl rfl fun f c A o s H E hr => ?_
  have hu := Bv hr
  exact ⟨_, (Bb (jQ (i := 4) QS.nd rfl (Or.inl rfl) (Ef Aj))
    (Bb (Og PassesOwn.never rfl (Ru rfl T.NK (Ag (Af 2) Aj)) (Wx (i := 5) QS.nd rfl (Or.inl rfl))
      (Bb (CZ (i := 6) QS.nd rfl (Or.inl rfl) (Bt Nx (Br _ _ _) hr rfl (Ag (Af 0) (Ag (BJ Gf (BJ Gf (BJ Ew Ak (Af 5)) (Af 1)) Ak) Aj))))
      (Bb (CZ (i := 7) QS.nd rfl (Or.inl rfl) (BJ Jd (BJ Cj (BJ GD (Af 6) Ak) Ak) Ak))
      (Bb (Fd (JW.jt (Qj (DN (IK rfl hu) (Af 3) (JL.je (Ef Aj)) (Ce _)) (QT (DN (HS rfl hu) (BJ Cj (BJ GD (Af 6) Ak) Ak) Ak (Ce _)))))
        (Bc (CZ (i := 7) QS.nd rfl (Or.inl rfl) (BJ Jd (BJ Gf (CG rfl (CG rfl (Af 3) (BJ Cj (BJ GD (Af 6) Ak) (Dv (GC rfl) (by rfl) T.Fz (by rfl) (Ag (Af 3) Aj))) (fun _ _ => rfl)) Ak (fun _ _ => rfl)) (BJ Cj (BJ GD (Af 6) Ak) Ak)) Ak))) Er)
      (Bc (AHJ 4 (CG rfl (JL.je (Ef (Ag (Eu Aj) (Ag (Eu (Ag (Af 7) (Ag (BJ Cj (BJ GD (Af 6) Ak) (BJ PJ Ak Ak)) Aj))) Aj)))) (uH uP (by rfl) T.cP (by rfl) (Ag (Hz Vc (BJ Cj (Af 6) Ak) Ak (Ce _)) Aj)) (fun _ _ => rfl)) rfl))))))
    (Bc (jX 4))))⟩
theorem AKC : K7 = Ci 5 7 aB := by rfl
theorem jM : Bk ["bounds", "height", "which", "shelf", "cell", "things", "areas"] ["bounds", "height", "which", "shelf", "cell"] (BL Xi) := by walk_at "sc"
theorem AIH (Su : Def K mg "_law_disk" Xi ["bounds", "height", "which", "shelf", "cell"]) (T : Txt K mg CK) (bC : Callee P w K mg base 2 "_law_area" ["cell", "k", "size", "things"] (Bw K 4 Ms)) (Lb : Callee P w K mg base 2 "_law_two" ["height"] (BR K 1 Jz)) : Callee P w K mg base 3 "_law_disk" ["bounds", "height", "which", "shelf", "cell"] (Bw K 5 K7) := by
  refine Def.Hc (AKC) Su jM rfl rfl fun f c A o s H E hr => ?_
  have hu := Bv hr
  exact ⟨_, (Bb (CZ (i := 5) jM.nd rfl (Or.inr rfl) (JL.je (Kr ["thing"] [] rfl (J0 rfl (Af 3)) trivial (Jc (by decide)) (fun _ _ _ _ => JF (i := 0) (show (["thing"] : List Str).Nodup by decide +kernel) rfl (Or.inl rfl) (Or.inr rfl)) (fun _ _ _ _ => (T6 (DN (IK rfl hu) (Af 0) (Eu Aj) (Ce _)))) (fun _ _ _ _ => (Af 0)) rfl (by decide) (by decide) (Jh (by decide)))))
    (Bb (WT (i := 6) vL gW ["k"] [(4, "cell"), (5, "things"), (0, "bounds")] jM.nd rfl (Or.inl rfl) rfl (Ru rfl T.NK (Ag Ak Aj)) ⟨⟨rfl, Or.inl rfl, Or.inl rfl⟩, ⟨⟨rfl, Or.inl rfl, Or.inl rfl⟩, ⟨⟨rfl, Or.inl rfl, Or.inl rfl⟩, trivial⟩⟩⟩ (Jc (by decide)) (fun _ _ _ _ => JF (i := 0) (show (["k", "cell", "things", "bounds"] : List Str).Nodup by decide +kernel) rfl (Or.inl rfl) (Or.inr rfl)) (fun _ _ _ _ => KR) (fun _ _ _ _ => (JL.je (Fq bC (Eo _ _ _) hr rfl (Ag (Af 1) (Ag (Af 0) (Ag (BJ Ew (Bt Lb (Br _ _ _) hr rfl (Ag (CG rfl (Af 3) Ak (fun _ _ => rfl)) Aj)) (CG rfl (Af 3) Ak (fun _ _ => rfl))) (Ag (Af 2) Aj))))))) rfl (by decide) (by decide) (by rfl) (by rfl))
    (Bb (AJZ 6 (lE rfl (Af 3) (JL.je (Wv rfl (CG rfl (Af 6) (Af 2) (fun _ _ => rfl)) (S5 (Dv (GC rfl) (by rfl) T.Fz (by rfl) (Ag (Af 3) Aj))) Zb))) (Af 2))
    (Bc (Hy (Ef (Ag (CG rfl (Af 6) Ak (fun _ _ => rfl)) (Ag (CG rfl (Af 6) Ak (fun _ _ => rfl)) (Ag (JL.je (Ef (Ag (Eu (Ag (Af 2) (Ag (Af 1) Aj))) Aj))) Aj)))))))))⟩
theorem AEy : Mq = Ba 2 2 bN := by rfl
theorem AH8 : Bk ["bounds", "height"] ["bounds", "height"] (BL Yt) := by walk_at "sc"
theorem AG3 (Sx : Def K mg "_law_cap" Yt ["bounds", "height"]) (T : Txt K mg CK) (Lb : Callee P w K mg base 1 "_law_two" ["height"] (BR K 1 Jz)) : Callee P w K mg base 2 "_law_cap" ["bounds", "height"] (BR K 2 Mq) := by
  refine Def.Cy (AEy) Sx AH8 rfl rfl fun f c A o s H E hr => ?_
  have hu := Bv hr
  exact ⟨_, (Bc (Cg (BJ Ew (Bt Lb (Br _ _ _) hr rfl (Ag (Af 1) Aj)) (BJ Jd (CG rfl (Af 0) Ak (fun _ _ => rfl)) (BJ Ew (Af 1) (CG rfl (Af 0) Ak (fun _ _ => rfl)))))))⟩
theorem ABe : Fp = Ba 3 6 R8 := by rfl
theorem Tc : Bk ["keeper", "key", "cell", "kinds", "most", "e"] ["keeper", "key", "cell"] (BL Yu) := by walk_at "sc"
theorem AFP (Rz : Def K mg "_law_kinds" Yu ["keeper", "key", "cell"]) (T : Txt K mg CK)  {Dc C1 C2 d1 d2 d3 d4 : Addr} (kf : KF K mg Dc C1 C2 d1 d2 d3 d4) (cA : HN P w K mg base 7 CK "put" ["self", "key", "amount", "most"] [] (Dy K 4 mg Ir)) (iW : HN P w K mg base 7 CK "put" ["self", "key", "amount", "most"] [.none] (Dy K 4 mg Ir)) (jT : HN P w K mg base 7 CK "take" ["self", "key", "most"] [] (Dy K 3 mg Ii)) (aP : HN P w K mg base 7 CK "take" ["self", "key", "most"] [.none] (Dy K 3 mg Ii)) : Callee P w K mg base 8 "_law_kinds" ["keeper", "key", "cell"] (BR K 3 Fp) := by
  refine Def.Cy (ABe) Rz Tc rfl rfl fun f c A o s H E hr => ?_
  have hu := Bv hr
  exact ⟨_, (Bb (CZ (i := 3) Tc.nd rfl (Or.inl rfl) (JL.je (Ef Aj)))
    (Bb (CZ (i := 4) Tc.nd rfl (Or.inl rfl) (CG rfl (JL.je (Ef (Ag Ak (Ag Ak (Ag Ak Aj))))) (BJ Cj (BJ GD (Af 2) Ak) Ak) (fun _ _ => rfl)))
    (Bb (AIz 3 5 kf.kc rfl rfl Tc.nd rfl rfl rfl kf.m0 kf.x0 (fun C hC => (kf.ek C hC).2.2) (gU (DN (HS rfl hu) (BJ Cj (Af 2) Ak) Ak (Ce _)) (Yk (dvs := [.non]) rfl rfl T.ob.ns T.ob.cl iW (M3 _ _ _) (.cons rfl .nil) (fun _ => .cons .non .nil) rfl hr (Af 0) (Ag (Af 1) (Ag Ak Aj)))
      (gU (DN (HS rfl hu) (BJ Cj (Af 2) Ak) Ak (Ce _)) (Yk (dvs := []) rfl rfl T.ob.ns T.ob.cl cA (M3 _ _ _) .nil (fun _ => .nil) rfl hr (Af 0) (Ag (Af 1) (Ag Ak (Ag (Af 4) Aj))))
      (gU (DN (HS rfl hu) (BJ Cj (Af 2) Ak) Ak (Ce _)) (Yk (dvs := [.non]) rfl rfl T.ob.ns T.ob.cl aP (M3 _ _ _) (.cons rfl .nil) (fun _ => .cons .non .nil) rfl hr (Af 0) (Ag (Af 1) Aj))
      (Yk (dvs := []) rfl rfl T.ob.ns T.ob.cl jT (M3 _ _ _) .nil (fun _ => .nil) rfl hr (Af 0) (Ag (Af 1) (Ag (Af 4) Aj))))))
      (fun a C hC => aV (WN (i := 3) Tc.nd rfl (Or.inl rfl) (nA (Ek (RJ (Wm (kf.ek C hC).1 (kf.ek C hC).2.1) (by rfl) T.JK (by rfl) (Ek (pv 5) (Ek (N7 rfl kf.kc.m1 rfl) Iv))) (Ek (RJ (Wm (kf.ek C hC).1 (kf.ek C hC).2.1) (by rfl) T.JK (by rfl) (Ek (pv 5) (Ek (N7 rfl kf.kc.m2 rfl) Iv))) (Ek (RJ (Wm (kf.ek C hC).1 (kf.ek C hC).2.1) (by rfl) T.JK (by rfl) (Ek (pv 5) (Ek (qF (Ek (N7 rfl kf.t1 rfl) (Ek (N7 rfl kf.t2 rfl) (Ek (N7 rfl kf.t3 rfl) (Ek (N7 rfl kf.t4 rfl) Iv))))) Iv))) Iv))))) (eN (JS.pe (xH 3 (RJ (Wm (kf.ek C hC).1 (kf.ek C hC).2.1) (by rfl) T.JK (by rfl) (Ek (pv 5) (Ek (yI rfl T.AGG (by rfl) rfl) Iv))) (AKI (K := K)) rfl)))))
    (Bc (Cg (Af 3))))))⟩
theorem AG4 : Lr = Ci 1 1 gZ := by rfl
theorem AFU : Bk ["keeper"] ["keeper"] (BL X4) := by walk_at "sc"
theorem AKD (Ux : Def K mg "_law_shot" X4 ["keeper"]) (T : Txt K mg CK) (jY : Dg P w K mg base 5 CK "counts" ["self"] (BR K 1 VN)) (cB : Dg P w K mg base 5 CK "disk" ["self"] (Bw K 1 R6)) (RX : Dg P w K mg base 5 CK "excess" ["self"] (BR K 1 Lx)) (Q7 : Dg P w K mg base 5 CK "over" ["self"] (BR K 1 Ls)) (iM : Dg P w K mg base 5 CK "rows" ["self"] (Bw K 1 QZ)) : Callee P w K mg base 6 "_law_shot" ["keeper"] (Bw K 1 Lr) := by
  refine Def.Hc (AG4) Ux AFU rfl rfl fun f c A o s H E hr => ?_
  have hu := Bv hr
  exact ⟨_, (Bc (Hy (Ef (Ag (JL.je (U6 rfl T.ob.ns T.ob.cl cB (Eo _ _ _) hr (Af 0))) (Ag (JL.je (U6 rfl T.ob.ns T.ob.cl iM (Eo _ _ _) hr (Af 0))) (Ag (Rx rfl T.ob.ns T.ob.cl jY (Br _ _ _) hr (Af 0)) (Ag (Rx rfl T.ob.ns T.ob.cl RX (Br _ _ _) hr (Af 0)) (Ag (Rx rfl T.ob.ns T.ob.cl Q7 (Br _ _ _) hr (Af 0)) Aj))))))))⟩
theorem AGB : Qa = Ba 1 12 VG := by rfl
theorem Hq : Bk ["script", "bounds", "some", "height", "full", "shelf", "keeper", "keys", "cell", "key", "before", "due"] ["script"] (BL WL) := by walk_at "sc"
theorem AJC (Rm : Def K mg "law" WL ["script"]) (T : Txt K mg CK) (gM : Dg P w K mg base 7 CK "__init__" ["self", "bounds", "disk"] (Js K 3 Kp)) (gH : Callee P w K mg base 8 "_law_bounds" ["cell"] (BR K 1 PN)) (jK : Callee P w K mg base 8 "_law_cap" ["bounds", "height"] (BR K 2 Mq)) (V9 : Callee P w K mg base 8 "_law_cell" ["script", "k"] (BR K 2 Nj)) (aL : Callee P w K mg base 8 "_law_disk" ["bounds", "height", "which", "shelf", "cell"] (Bw K 5 K7)) (cR : Callee P w K mg base 8 "_law_filled" ["bounds", "height", "cell", "many"] (Bw K 4 M5)) (Yi : Callee P w K mg base 8 "_law_kinds" ["keeper", "key", "cell"] (BR K 3 Fp)) (Vh : Callee P w K mg base 8 "_law_shot" ["keeper"] (Bw K 1 Lr)) (Oe : Callee P w K mg base 8 "_law_spread" ["cell"] (BR K 1 J5)) : Callee P w K mg base 9 "law" ["script"] (BR K 1 Qa) := by
  refine Def.Cy (AGB) Rm Hq rfl rfl fun f c A o s H E hr => ?_
  have hu := Bv hr
  exact ⟨_, (Bb (CZ (i := 1) Hq.nd rfl (Or.inl rfl) (Bt gH (Br _ _ _) hr rfl (Ag (Bt V9 (Br _ _ _) hr rfl (Ag (Af 0) (Ag Ak Aj))) Aj)))
    (Bb (CZ (i := 2) Hq.nd rfl (Or.inl rfl) (Bt Oe (Br _ _ _) hr rfl (Ag (Bt V9 (Br _ _ _) hr rfl (Ag (Af 0) (Ag Ak Aj))) Aj)))
    (Bb (Fd (DN Vc (CG rfl (Af 1) Ak (fun _ _ => rfl)) Ak (Ce _))
      (Bc (CZ (i := 1) Hq.nd rfl (Or.inl rfl) (Eu (Ag Ak (Ag (CG rfl (Af 1) Ak (fun _ _ => rfl)) (Ag (CG rfl (Af 1) Ak (fun _ _ => rfl)) Aj)))))) Er)
    (Bb (CZ (i := 3) Hq.nd rfl (Or.inl rfl) (CG rfl (JL.je (Ef (Ag (BJ Cj (BJ GD (Af 2) Ak) (BJ Gf (CG rfl (Af 1) Ak (fun _ _ => rfl)) Ak)) (Ag (CG rfl (Af 1) Ak (fun _ _ => rfl)) Aj)))) (BJ Cj (Af 2) Ak) (fun _ _ => rfl)))
    (Bb (CZ (i := 4) Hq.nd rfl (Or.inl rfl) (Ia (Hz (HS rfl hu) (Af 3) (CG rfl (Af 1) Ak (fun _ _ => rfl)) (Ce _)) (Km (Hz (HS rfl hu) (BJ Cj (BJ GD (Af 2) Ak) Ak) Ak (Ce _)))))
    (Bb (CZ (i := 5) Hq.nd rfl (Or.inl rfl) (JL.je (Fq cR (Eo _ _ _) hr rfl (Ag (Af 1) (Ag (Af 3) (Ag (Af 2) (Ag (BJ Jd (Bt jK (Br _ _ _) hr rfl (Ag (Af 1) (Ag (Af 3) Aj))) (BJ Ew (uH uP (by rfl) T.cP (by rfl) (Ag (tZ (Af 4)) Aj)) (BJ Gf Ak (BJ Cj (BJ GD (Af 2) Ak) Ak)))) Aj)))))))
    (Bb (CZ (i := 6) Hq.nd rfl (Or.inl rfl) (AFt T.ob rfl T.mks T.kp gM (zA _ _ _) hr rfl T.mgK (Ag (Af 1) (Ag (JL.je (Fq aL (Eo _ _ _) hr rfl (Ag (Af 1) (Ag (Af 3) (Ag (BJ Cj (BJ GD (Af 2) Ak) Ak) (Ag (Af 5) (Ag (Af 2) Aj))))))) Aj))))
    (Bb (WT (i := 7) Gv zP ["thing"] [] Hq.nd rfl (Or.inl rfl) rfl (J0 rfl (Af 5)) trivial (Jc (by decide)) (fun _ _ _ _ => JF (i := 0) (show (["thing"] : List Str).Nodup by decide +kernel) rfl (Or.inl rfl) (Or.inr rfl)) (fun _ _ _ _ => (T6 (DN (IK rfl hu) (Af 0) (Eu Aj) (Ce _)))) (fun _ _ _ _ => (CG rfl (Af 0) Ak (fun _ _ => rfl))) rfl (by decide) (by decide) (Jh (by decide)) (by rfl))
    (Bb (Og PassesOwn.never rfl (J0 rfl (JL.je (Kr ["one"] [] rfl (J0 rfl (JL.je (lE rfl (JL.je (Ef (Ag Ak Aj))) (JL.je (Wv rfl (Af 0) (S5 Ak) (S5 Ak)))))) trivial (Jc (by decide)) (fun _ _ _ _ => JF (i := 0) (show (["one"] : List Str).Nodup by decide +kernel) rfl (Or.inl rfl) (Or.inr rfl)) (fun _ _ _ _ => KR) (fun _ _ _ _ => (Bt Oe (Br _ _ _) hr rfl (Ag (Af 0) Aj))) rfl (by decide) (by decide) (Jh (by decide))))) (Wx (i := 8) Hq.nd rfl (Or.inl rfl))
      (Bb (CZ (i := 9) Hq.nd rfl (Or.inl rfl) (CG rfl (JL.je (Ef (Ag (BJ Cj (Af 8) (BJ PJ Ak Ak)) (Ag (AEv (BJ Cj (Af 8) (BJ PJ Ak Ak))) Aj)))) (BJ Cj (BJ GD (Af 8) Ak) Ak) (fun _ _ => rfl)))
      (Bb (Fd (JW.jt (Qj (DN (IK rfl hu) (Af 7) (JL.je (Ef Aj)) (Ce _)) (QT (DN (HS rfl hu) (BJ Cj (BJ GD (Af 8) Ak) Ak) Ak (Ce _)))))
        (Bc (CZ (i := 9) Hq.nd rfl (Or.inl rfl) (BJ Gf (CG rfl (Af 7) (BJ Cj (BJ GD (Af 8) Ak) (Dv (GC rfl) (by rfl) T.Fz (by rfl) (Ag (Af 7) Aj))) (fun _ _ => rfl)) Ak))) Er)
      (Bc (Fd (JW.jt (Qj (DN (AFK rfl) (Af 9) (Af 7) (by with_unfolding_all rfl)) (QT (JW.jt (Ny (DN Vc (BJ Cj (Af 8) Ak) Ak (Ce _)) (Oa (KH (Af 4) (fun _ => rfl))))))))
        (Bb (CZ (i := 10) Hq.nd rfl (Or.inl rfl) (JL.je (Fq Vh (Eo _ _ _) hr rfl (Ag (Af 6) Aj))))
        (Bb (CZ (i := 11) Hq.nd rfl (Or.inl rfl) (JL.je (Ef (Ag (Hz Th (BJ Cj (Af 8) Ak) Ak (Ce _)) (Ag (Hz Vc (BJ Cj (Af 8) Ak) Ak (Ce _)) (Ag IV (Ag IV Aj)))))))
        (Bc (Fd (JW.jt (Ny (DN (IK rfl hu) (Bt Yi (Br _ _ _) hr rfl (Ag (Af 6) (Ag (Af 9) (Ag (Af 8) Aj)))) (Af 11) (Ce _)) (Oa (DN (IK rfl hu) (JL.je (Fq Vh (Eo _ _ _) hr rfl (Ag (Af 6) Aj))) (Af 10) (Ce _)))))
          (Bc (Cg IV)) Er)))) Er)))))
    (Bc (Cg (Hz (HS rfl hu) (Bt Yi (Br _ _ _) hr rfl (Ag (Af 6) (Ag (BJ Jd (Dv (ADS rfl hr.hd) (by rfl) T.ADr (by rfl) (Ag (JL.je (lE rfl (Af 7) (JL.je (Ef (Ag Ak Aj))))) Aj)) Ak) (Ag Ak Aj)))) (JL.je (Ef (Ag IV (Ag IV (Ag IV (Ag IV Aj)))))) (Ce _)))))))))))))⟩
theorem chain {Dc C1 C2 d1 d2 d3 d4 : Addr} (kf : KF K mg Dc C1 C2 d1 d2 d3 d4) (T : Txt K mg CK) (hl : ∀ ns : List Int, ns.length ≤ 63 → Qa [.list (ns.map PyData.int)] = some (.bool true)) (Uo : Def K mg "is_whole" YJ ["thing"]) (SN : Def K mg "is_bounds" Wi ["thing"]) (Sd : Def K mg "are_in_range" Xy ["top", "width", "step"]) (SQ : Def K mg "twofold" Yh ["height"]) (TF : Def K mg "places_of" Yl ["bounds", "height"]) (Sq : Def K mg "cap_of" Vp ["bounds", "height"]) (Ug : Def K mg "calm_of" WX ["bounds", "height"]) (U5 : Def K mg "is_straight" Wk ["shelf"]) (UW : Def K mg "is_sound" Ws ["shelf"]) (Tn : Def K mg "second_place" Yq ["shelf"]) (Sg : Def K mg "mended" Vq ["shelf"]) (Tu : Def K mg "rows_of" Vt ["shelf"]) (VP : Def K mg "held" Wd ["shelf", "first", "behind"]) (Uu : Def K mg "done" Vi ["shelf", "writes"]) (Ti : Def K mg "beyond" V5 ["number", "bound"]) (Uj : Def K mg "excess_at" W7 ["bounds", "level", "shelf"]) (VL : Def K mg "excess_of" Ye ["bounds", "height", "shelf"]) (Rt : Def K mg "over_of" Xv ["bounds", "height", "shelf"]) (UT : Def K mg "place_of" Xl ["shelf", "key"]) (Rc : Def K mg "put_writes" Vn ["bounds", "height", "shelf", "key", "amount"]) (Rh : Def K mg "take_writes" Wg ["shelf", "key"]) (T7 : Def K mg "is_pair" Y4 ["thing"]) (U8 : Def K mg "is_place" XD ["thing"]) (UG : Def K mg "is_area" YC ["thing", "size"]) (Ul : Def K mg "is_sign" YT ["bounds", "thing"]) (Ut : Def K mg "has_form" Yy ["bounds", "thing"]) (Tj : Def K mg "is_disk" Vm ["bounds", "thing"]) (Ui : Def K mg "area_on" Xj ["disk"]) (Tp : Def K mg "height_on" W5 ["disk"]) (T9 : Def K mg "shelf_on" XM ["bounds", "disk"]) (Rv : Def K mg "written" XH ["disk", "writes"]) (Ub : Def K mg "on_area" Yv ["area", "writes"]) (Uy : Def K mg "must_grow" Xn ["bounds", "disk", "key"]) (Rq : Def K mg "growing_writes" Wl ["bounds", "disk", "key"]) (Q9 : Def K mg "disk_put" Wy ["bounds", "disk", "key", "amount"]) (Ql : Def K mg "disk_take" ZC ["bounds", "disk", "key"]) (TJ : Def K mg "mending_writes" Xe ["bounds", "disk"]) (UJ : Cz K CK "__init__" "Keeper.__init__" Xh ["self", "bounds", "disk"]) (VR : Cz K CK "come_up" "Keeper.come_up" Vl ["self", "disk"]) (S9 : Cz K CK "shelf" "Keeper.shelf" Xm ["self"]) (lC : JQ K CK "put" "Keeper.put" S8 ["self", "key", "amount", "most"] []) (fK : JQ K CK "put" "Keeper.put" S8 ["self", "key", "amount", "most"] [.none]) (c7 : JQ K CK "take" "Keeper.take" Ur ["self", "key", "most"] []) (jA : JQ K CK "take" "Keeper.take" Ur ["self", "key", "most"] [.none]) (Q4 : Cz K CK "do_writes" "Keeper.do_writes" bM ["self", "writes", "most"]) (R9 : Cz K CK "rows" "Keeper.rows" Y8 ["self"]) (U0 : Cz K CK "disk" "Keeper.disk" ZJ ["self"]) (Tv : Cz K CK "counts" "Keeper.counts" Wc ["self"]) (Us : Cz K CK "excess" "Keeper.excess" YS ["self"]) (TX : Cz K CK "over" "Keeper.over" Y5 ["self"]) (U9 : Def K mg "_law_cell" Yx ["script", "k"]) (Va : Def K mg "_law_spread" Y9 ["cell"]) (Te : Def K mg "_law_mixed" Vu ["cell", "k"]) (U3 : Def K mg "_law_bounds" Vz ["cell"]) (Rr : Def K mg "_law_two" Wa ["height"]) (Sw : Def K mg "_law_filled" Xr ["bounds", "height", "cell", "many"]) (S6 : Def K mg "_law_area" Xp ["cell", "k", "size", "things"]) (Su : Def K mg "_law_disk" Xi ["bounds", "height", "which", "shelf", "cell"]) (Sx : Def K mg "_law_cap" Yt ["bounds", "height"]) (Rz : Def K mg "_law_kinds" Yu ["keeper", "key", "cell"]) (Ux : Def K mg "_law_shot" X4 ["keeper"]) (Rm : Def K mg "law" WL ["script"]) : Callee P w K mg base 9 "law" ["script"] (WD K) := by
  have N5 := AJD (P := P) (w := w) (base := base) Uo T
  have cG := AFk (P := P) (w := w) (base := base) Sd T
  have aM := AIZ (P := P) (w := w) (base := base) SN T (cG.mono (by decide)) (N5.mono (by decide))
  have K4 := AKU (P := P) (w := w) (base := base) SQ T
  have LC := ACf (P := P) (w := w) (base := base) TF T (K4.mono (by decide))
  have Ji := AHV (P := P) (w := w) (base := base) Sq T (K4.mono (by decide))
  have d9 := ADQ (P := P) (w := w) (base := base) Ug T (K4.mono (by decide))
  have cQ := AJr (P := P) (w := w) (base := base) U5 T
  have cF := AKS (P := P) (w := w) (base := base) Uu T
  have QH := ACa (P := P) (w := w) (base := base) Tn T
  have QK := ADJ (P := P) (w := w) (base := base) Sg T (cF.mono (by decide)) (QH.mono (by decide))
  have dW := ADx (P := P) (w := w) (base := base) UW T (cQ.mono (by decide)) (QK.mono (by decide))
  have QJ := ACb (P := P) (w := w) (base := base) Tu T (QK.mono (by decide))
  have Jk := ABv (P := P) (w := w) (base := base) VP T
  have RP := AHA (P := P) (w := w) (base := base) Ti T
  have fQ := AFr (P := P) (w := w) (base := base) Uj T (RP.mono (by decide)) (d9.mono (by decide)) (Jk.mono (by decide)) (LC.mono (by decide))
  have fU := AAf (P := P) (w := w) (base := base) VL T (fQ.mono (by decide))
  have Z3 := AAb (P := P) (w := w) (base := base) Rt T (RP.mono (by decide)) (Ji.mono (by decide)) (Jk.mono (by decide))
  have RW := AI9 (P := P) (w := w) (base := base) UT T
  have dZ : Callee P w K mg base 3 "put_writes" ["bounds", "height", "shelf", "key", "amount"] (Bw K 5 R1) := Rc.never _ _
  have cT : Gd P w K mg base 3 "put_writes" ["bounds", "height", "shelf", "key", "amount"] (Dy K 5 mg Nq) := AHp Rc T (Ji.mono (by decide)) (Jk.mono (by decide)) (RW.mono (by decide)) kf.kc.m1 kf.x1
  have cN : Callee P w K mg base 2 "take_writes" ["shelf", "key"] (Bw K 2 lF) := Rh.never _ _
  have ZL : Gd P w K mg base 2 "take_writes" ["shelf", "key"] (Dy K 2 mg Pk) := AEa Rh T (RW.mono (by decide)) kf.kc.m2 kf.x2
  have Qc := ACi (P := P) (w := w) (base := base) T7 T (N5.mono (by decide))
  have aA := AFg (P := P) (w := w) (base := base) U8 T (Qc.mono (by decide))
  have W4 := AFh (P := P) (w := w) (base := base) UG T (aA.mono (by decide))
  have Zo := AI5 (P := P) (w := w) (base := base) Ul T (Qc.mono (by decide))
  have kO := AGy (P := P) (w := w) (base := base) Ut T (W4.mono (by decide)) (Zo.mono (by decide)) (LC.mono (by decide))
  have Gi := AGq (P := P) (w := w) (base := base) Tp T
  have Ld := ACN (P := P) (w := w) (base := base) Ui T
  have Gn := ABz (P := P) (w := w) (base := base) T9 T (Ld.mono (by decide)) (Gi.mono (by decide)) (LC.mono (by decide))
  have eG := ABm (P := P) (w := w) (base := base) Tj T (Ji.mono (by decide)) (kO.mono (by decide)) (Gi.mono (by decide)) (dW.mono (by decide)) (QJ.mono (by decide)) (Gn.mono (by decide))
  have K9 := AIK (P := P) (w := w) (base := base) Rv T
  have Qq := AAz (P := P) (w := w) (base := base) Ub T
  have gK := AGV (P := P) (w := w) (base := base) Uy T (Ji.mono (by decide)) (Gi.mono (by decide)) (Jk.mono (by decide)) (Gn.mono (by decide))
  have jO := AH9 (P := P) (w := w) (base := base) Rq T (gK.mono (by decide))
  have Wo : Callee P w K mg base 6 "disk_put" ["bounds", "disk", "key", "amount"] (Bw K 4 WM) := Q9.never _ _
  have XF : Gd P w K mg base 6 "disk_put" ["bounds", "disk", "key", "amount"] (Dy K 4 mg Nt) := ACz Q9 T (jO.mono (by decide)) (Gi.mono (by decide)) (dZ.mono (by decide)) (Gn.mono (by decide)) (K9.mono (by decide)) (cT.mono (by decide))
  have Xg : Callee P w K mg base 4 "disk_take" ["bounds", "disk", "key"] (Bw K 3 j6) := Ql.never _ _
  have Yo : Gd P w K mg base 4 "disk_take" ["bounds", "disk", "key"] (Dy K 3 mg K3) := ACm Ql T (Ld.mono (by decide)) (Qq.mono (by decide)) (Gn.mono (by decide)) (cN.mono (by decide)) (ZL.mono (by decide))
  have bR := AAj (P := P) (w := w) (base := base) TJ T (Ld.mono (by decide)) (Qq.mono (by decide)) (QH.mono (by decide)) (Gn.mono (by decide))
  have Kz := AKQ (P := P) (w := w) (base := base) S9 T (Gn.mono (by decide))
  have RX := AH3 (P := P) (w := w) (base := base) Us T (Kz.mono (by decide)) (fU.mono (by decide)) (Gi.mono (by decide))
  have Q7 := ABJ (P := P) (w := w) (base := base) TX T (Kz.mono (by decide)) (Gi.mono (by decide)) (Z3.mono (by decide))
  have bF := AHr (P := P) (w := w) (base := base) VR T (RX.mono (by decide)) (Q7.mono (by decide)) (bR.mono (by decide)) (K9.mono (by decide))
  have gM := AHc (P := P) (w := w) (base := base) UJ T (bF.mono (by decide)) (aM.mono (by decide)) (eG.mono (by decide))
  have cA : HN P w K mg base 7 CK "put" ["self", "key", "amount", "most"] [] (Dy K 4 mg Ir) := vI T (Wo.mono (by decide)) (XF.mono (by decide))  lC
  have iW : HN P w K mg base 7 CK "put" ["self", "key", "amount", "most"] [.none] (Dy K 4 mg Ir) := vI T (Wo.mono (by decide)) (XF.mono (by decide))  fK
  have jT : HN P w K mg base 5 CK "take" ["self", "key", "most"] [] (Dy K 3 mg Ii) := oH T (Xg.mono (by decide)) Q4 (Yo.mono (by decide))  c7
  have aP : HN P w K mg base 5 CK "take" ["self", "key", "most"] [.none] (Dy K 3 mg Ii) := oH T (Xg.mono (by decide)) Q4 (Yo.mono (by decide))  jA
  have iM := AJh (P := P) (w := w) (base := base) R9 T (Kz.mono (by decide)) (QJ.mono (by decide))
  have cB := AIk (P := P) (w := w) (base := base) U0 T (K9.mono (by decide))
  have jY := ABk (P := P) (w := w) (base := base) Tv T
  have V9 := AIq (P := P) (w := w) (base := base) U9 T
  have Oe := AFL (P := P) (w := w) (base := base) Va T
  have Nx := ADo (P := P) (w := w) (base := base) Te T
  have gH := zW (P := P) (w := w) (base := base) U3 T (Oe.mono (by decide))
  have Lb := AIA (P := P) (w := w) (base := base) Rr T
  have cR := ACc (P := P) (w := w) (base := base) Sw T (Nx.mono (by decide)) (Lb.mono (by decide))
  have bC := AAS (P := P) (w := w) (base := base) S6 T (Nx.mono (by decide))
  have aL := AIH (P := P) (w := w) (base := base) Su T (bC.mono (by decide)) (Lb.mono (by decide))
  have jK := AG3 (P := P) (w := w) (base := base) Sx T (Lb.mono (by decide))
  have Yi := AFP (P := P) (w := w) (base := base) Rz T  kf (cA.mono (by decide)) (iW.mono (by decide)) (jT.mono (by decide)) (aP.mono (by decide))
  have Vh := AKD (P := P) (w := w) (base := base) Ux T (jY.mono (by decide)) (cB.mono (by decide)) (RX.mono (by decide)) (Q7.mono (by decide)) (iM.mono (by decide))
  have AHY := AJC (P := P) (w := w) (base := base) Rm T (gM.mono (by decide)) (gH.mono (by decide)) (jK.mono (by decide)) (V9.mono (by decide)) (aL.mono (by decide)) (cR.mono (by decide)) (Yi.mono (by decide)) (Vh.mono (by decide)) (Oe.mono (by decide))
  exact AHY.yO hl
end
theorem ln1 {α : Type} {us : List α} (h : us.length = 1) : ∃ a0, us = [a0] := by
  obtain _ | ⟨_, us⟩ := us
  · cases h
  obtain _ | ⟨_, us⟩ := us
  · exact ⟨_, rfl⟩
  · cases h
theorem ln2 {α : Type} {us : List α} (h : us.length = 2) : ∃ a0 a1, us = [a0, a1] := by
  obtain _ | ⟨_, us⟩ := us
  · cases h
  obtain _ | ⟨_, us⟩ := us
  · cases h
  obtain _ | ⟨_, us⟩ := us
  · exact ⟨_, _, rfl⟩
  · cases h
theorem ZQ {α : Type} {us : List α} (h : us.length = 3) : ∃ a0 a1 a2, us = [a0, a1, a2] := by
  obtain _ | ⟨_, us⟩ := us
  · cases h
  obtain _ | ⟨_, us⟩ := us
  · cases h
  obtain _ | ⟨_, us⟩ := us
  · cases h
  obtain _ | ⟨_, us⟩ := us
  · exact ⟨_, _, _, rfl⟩
  · cases h
theorem tV {α : Type} {us : List α} (h : us.length = 4) : ∃ a0 a1 a2 a3, us = [a0, a1, a2, a3] := by
  obtain _ | ⟨_, us⟩ := us
  · cases h
  obtain _ | ⟨_, us⟩ := us
  · cases h
  obtain _ | ⟨_, us⟩ := us
  · cases h
  obtain _ | ⟨_, us⟩ := us
  · cases h
  obtain _ | ⟨_, us⟩ := us
  · exact ⟨_, _, _, _, rfl⟩
  · cases h
theorem ln5 {α : Type} {us : List α} (h : us.length = 5) : ∃ a0 a1 a2 a3 a4, us = [a0, a1, a2, a3, a4] := by
  obtain _ | ⟨_, us⟩ := us
  · cases h
  obtain _ | ⟨_, us⟩ := us
  · cases h
  obtain _ | ⟨_, us⟩ := us
  · cases h
  obtain _ | ⟨_, us⟩ := us
  · cases h
  obtain _ | ⟨_, us⟩ := us
  · cases h
  obtain _ | ⟨_, us⟩ := us
  · exact ⟨_, _, _, _, _, rfl⟩
  · cases h
set_option hygiene false
local macro_rules | `(tactic| walk_at "d1") => `(tactic| exact fun _ _ _ _ _ _ us hl => by obtain ⟨_, rfl⟩ := ln1 hl; rfl)
local macro_rules | `(tactic| walk_at "d2") => `(tactic| exact fun _ _ _ _ _ _ us hl => by obtain ⟨_, _, rfl⟩ := ln2 hl; rfl)
local macro_rules | `(tactic| walk_at "d3") => `(tactic| exact fun _ _ _ _ _ _ us hl => by obtain ⟨_, _, _, rfl⟩ := ZQ hl; rfl)
local macro_rules | `(tactic| walk_at "d4") => `(tactic| exact fun _ _ _ _ _ _ us hl => by obtain ⟨_, _, _, _, rfl⟩ := tV hl; rfl)
local macro_rules | `(tactic| walk_at "d5") => `(tactic| exact fun _ _ _ _ _ _ us hl => by obtain ⟨_, _, _, _, _, rfl⟩ := ln5 hl; rfl)
set_option hygiene true
theorem all_mk (hl : ∀ ns : List Int, ns.length ≤ 63 → Qa [.list (ns.map PyData.int)] = some (.bool true)) {l : PySem.W.OpenLaw} {w : World} {K : Frag} {h : Heap} {mg : Str → Option Value} {fa : Addr} (X : K.In h) (G : h.Ns mainGlobals mg) (hfa : mg "law" = some (.ref fa)) {AI7 : Tok} {ADz : Tok} {AGp : Tok} {CK : Addr} (o0 : nsIn K mainGlobals "Keeper" = some (some (.ref CK))) (o1 : PySem.W.plainGet K CK Str.empty = true) (o2 : PySem.W.hasDictIn K CK = true) (o3 : PySem.W.plainOver K CK = true) (o4 : findIn K (.ref CK) "__setattr__" = some (some (.builtin "object.__setattr__"))) (o5 : findIn K (.ref CK) "__class__" = some (some (.builtin "object.__class__"))) (o6 : PySem.W.specialIn K (.builtin "object.__class__") "__get__" = some (some (.builtin "getset_descriptor.__get__"))) (o7 : PySem.W.takesIn K (.builtin "object.__class__") = some true) (o8 : mroIn K CK (.type "object") = some true) (o9 : makesIn K CK = true) (oa : keepIn K (.ref CK) = true) (ib : kitOne K (.ref CK) (.type "bool") = some false) (ii : kitOne K (.ref CK) (.type "int") = some false) (is : kitOne K (.ref CK) (.type "str") = some false) (il : kitOne K (.ref CK) (.type "list") = some false) (it : kitOne K (.ref CK) (.type "tuple") = some false) (Jp : findIn K (.ref CK) "bounds" = some none) (Q6 : findIn K (.ref CK) "first_excess" = some none) (Rj : findIn K (.ref CK) "first_over" = some none) (QM : findIn K (.ref CK) "laid" = some none) (Jo : findIn K (.ref CK) "lying" = some none) (Q5 : findIn K (.ref CK) "moves" = some none) (Qh : findIn K (.ref CK) "puts" = some none) (a0 : FnAt K "is_whole" YJ) (a1 : FnAt K "is_bounds" Wi) (a2 : FnAt K "are_in_range" Xy) (a3 : FnAt K "twofold" Yh) (a4 : FnAt K "places_of" Yl) (a5 : FnAt K "cap_of" Vp) (a6 : FnAt K "calm_of" WX) (a7 : FnAt K "is_straight" Wk) (a8 : FnAt K "is_sound" Ws) (a9 : FnAt K "second_place" Yq) (a10 : FnAt K "mended" Vq) (a11 : FnAt K "rows_of" Vt) (a12 : FnAt K "held" Wd) (a13 : FnAt K "done" Vi) (a14 : FnAt K "beyond" V5) (a15 : FnAt K "excess_at" W7) (a16 : FnAt K "excess_of" Ye) (a17 : FnAt K "over_of" Xv) (a18 : FnAt K "place_of" Xl) (a19 : FnAt K "put_writes" Vn) (a20 : FnAt K "take_writes" Wg) (a21 : FnAt K "is_pair" Y4) (a22 : FnAt K "is_place" XD) (a23 : FnAt K "is_area" YC) (a24 : FnAt K "is_sign" YT) (a25 : FnAt K "has_form" Yy) (a26 : FnAt K "is_disk" Vm) (a27 : FnAt K "area_on" Xj) (a28 : FnAt K "height_on" W5) (a29 : FnAt K "shelf_on" XM) (a30 : FnAt K "written" XH) (a31 : FnAt K "on_area" Yv) (a32 : FnAt K "must_grow" Xn) (a33 : FnAt K "growing_writes" Wl) (a34 : FnAt K "disk_put" Wy) (a35 : FnAt K "disk_take" ZC) (a36 : FnAt K "mending_writes" Xe) (a37 : Ja K CK "__init__" "Keeper.__init__" Xh) (a38 : Ja K CK "come_up" "Keeper.come_up" Vl) (a39 : Ja K CK "shelf" "Keeper.shelf" Xm) (a40 : U4 K CK "put" "Keeper.put" S8) (a41 : U4 K CK "take" "Keeper.take" Ur) (a42 : Ja K CK "do_writes" "Keeper.do_writes" bM) (a43 : Ja K CK "rows" "Keeper.rows" Y8) (a44 : Ja K CK "disk" "Keeper.disk" ZJ) (a45 : Ja K CK "counts" "Keeper.counts" Wc) (a46 : Ja K CK "excess" "Keeper.excess" YS) (a47 : Ja K CK "over" "Keeper.over" Y5) (a48 : FnAt K "_law_cell" Yx) (a49 : FnAt K "_law_spread" Y9) (a50 : FnAt K "_law_mixed" Vu) (a51 : FnAt K "_law_bounds" Vz) (a52 : FnAt K "_law_two" Wa) (a53 : FnAt K "_law_filled" Xr) (a54 : FnAt K "_law_area" Xp) (a55 : FnAt K "_law_disk" Xi) (a56 : FnAt K "_law_cap" Yt) (a57 : FnAt K "_law_kinds" Yu) (a58 : FnAt K "_law_shot" X4) (a59 : FnAt K "law" WL) (bA : nsIn K mainGlobals "ValueError" = some none) (jN : nsIn K mainGlobals "all" = some none) (ZS : nsIn K mainGlobals "bool" = some none) (jC : nsIn K mainGlobals "enumerate" = some none) (Zk : nsIn K mainGlobals "int" = some none) (kI : nsIn K mainGlobals "isinstance" = some none) (cL : nsIn K mainGlobals "len" = some none) (fX : nsIn K mainGlobals "list" = some none) (cU : nsIn K mainGlobals "max" = some none) (Z7 : nsIn K mainGlobals "min" = some none) (Zf : nsIn K mainGlobals "range" = some none) (iT : nsIn K mainGlobals "sum" = some none) (Ze : nsIn K mainGlobals "tuple" = some none) (aX : nsIn K mainGlobals "zip" = some none) (jU : nsIn K mainGlobals "GREATEST_TOP" = some (some (.int 4 AI7))) (Z0 : nsIn K mainGlobals "GREATEST_WIDTH" = some (some (.int 20 ADz))) (bJ : nsIn K mainGlobals "SIGN_PART" = some (some (.int 2 AGp))) {Dc C1 C2 d1 d2 d3 d4 : Addr} (q0 : nsIn K mainGlobals "ShelfError" = some (some (.ref Dc))) (q1 : nsIn K mainGlobals "Full" = some (some (.ref C1))) (q2 : nsIn K mainGlobals "NoKey" = some (some (.ref C2))) (t1 : nsIn K mainGlobals "BadBounds" = some (some (.ref d1))) (t2 : nsIn K mainGlobals "BadDisk" = some (some (.ref d2))) (t3 : nsIn K mainGlobals "NoText" = some (some (.ref d3))) (t4 : nsIn K mainGlobals "NoRow" = some (some (.ref d4))) (x0 : excIn K Dc Hr "ValueError.__new__" = true) (x1 : excIn K C1 Hr "ValueError.__new__" = true) (x2 : excIn K C2 Hr "ValueError.__new__" = true) (ga1 : findIn K (.ref C1) "__getattribute__" = some (some (.builtin "BaseException.__getattribute__"))) (gt1 : findIn K (.ref C1) "__getattr__" = some none) (cl1 : findIn K (.ref C1) "__class__" = some (some (.builtin "object.__class__"))) (mB1 : mroIn K C1 (.type "BaseException") = some true) (mO1 : mroIn K C1 (.type "object") = some true) (s1 : mroIn K C1 (.ref Dc) = some true) (ga2 : findIn K (.ref C2) "__getattribute__" = some (some (.builtin "BaseException.__getattribute__"))) (gt2 : findIn K (.ref C2) "__getattr__" = some none) (cl2 : findIn K (.ref C2) "__class__" = some (some (.builtin "object.__class__"))) (mB2 : mroIn K C2 (.type "BaseException") = some true) (mO2 : mroIn K C2 (.type "object") = some true) (s2 : mroIn K C2 (.ref Dc) = some true) (i1 : kitOne K (.ref C1) (.ref C1) = some true) (i2 : kitOne K (.ref C1) (.ref C2) = some false) (i3 : PySem.W.kitAny K (.ref C1) [.ref d1, .ref d2, .ref d3, .ref d4] = some false) (i4 : kitOne K (.ref C1) (.type "ValueError") = some true) (j1 : kitOne K (.ref C2) (.ref C1) = some false) (j2 : kitOne K (.ref C2) (.ref C2) = some true) (j3 : PySem.W.kitAny K (.ref C2) [.ref d1, .ref d2, .ref d3, .ref d4] = some false) (j4 : kitOne K (.ref C2) (.type "ValueError") = some true) : ∃ fd : FuncData, (∀ (s : Shared) (u : Value), BindsTo s fd ⟨[u], []⟩ [("script", u)]) ∧ ∀ base : Heap, K.In base → base.Ns mainGlobals mg → Ei l.prog w K mg base GZ 9 fa fd ["script"] (WD K) := by
  have T : Txt K mg CK := ⟨⟨o0, ⟨o1, o2, o3, o4⟩, o5, o6, o7, o8, fun U hU => by simp only [List.mem_cons, List.mem_nil_iff, or_false] at hU; rcases hU with rfl | rfl | rfl | rfl | rfl <;> assumption⟩, o9, oa, mg_of X G o0, QB o0 Jp, QB o0 Q6, QB o0 Rj, QB o0 QM, QB o0 Jo, QB o0 Q5, QB o0 Qh, mg_none_of X G bA, mg_none_of X G jN, mg_none_of X G ZS, mg_none_of X G jC, mg_none_of X G Zk, mg_none_of X G kI, mg_none_of X G cL, mg_none_of X G fX, mg_none_of X G cU, mg_none_of X G Z7, mg_none_of X G Zf, mg_none_of X G iT, mg_none_of X G Ze, mg_none_of X G aX, ⟨_, mg_of X G jU⟩, ⟨_, mg_of X G Z0⟩, ⟨_, mg_of X G bJ⟩⟩
  have Uo := a0.d (ps := ["thing"]) X G (by walk_at "d1")
  have SN := a1.d (ps := ["thing"]) X G (by walk_at "d1")
  have Sd := a2.d (ps := ["top", "width", "step"]) X G (by walk_at "d3")
  have SQ := a3.d (ps := ["height"]) X G (by walk_at "d1")
  have TF := a4.d (ps := ["bounds", "height"]) X G (by walk_at "d2")
  have Sq := a5.d (ps := ["bounds", "height"]) X G (by walk_at "d2")
  have Ug := a6.d (ps := ["bounds", "height"]) X G (by walk_at "d2")
  have U5 := a7.d (ps := ["shelf"]) X G (by walk_at "d1")
  have UW := a8.d (ps := ["shelf"]) X G (by walk_at "d1")
  have Tn := a9.d (ps := ["shelf"]) X G (by walk_at "d1")
  have Sg := a10.d (ps := ["shelf"]) X G (by walk_at "d1")
  have Tu := a11.d (ps := ["shelf"]) X G (by walk_at "d1")
  have VP := a12.d (ps := ["shelf", "first", "behind"]) X G (by walk_at "d3")
  have Uu := a13.d (ps := ["shelf", "writes"]) X G (by walk_at "d2")
  have Ti := a14.d (ps := ["number", "bound"]) X G (by walk_at "d2")
  have Uj := a15.d (ps := ["bounds", "level", "shelf"]) X G (by walk_at "d3")
  have VL := a16.d (ps := ["bounds", "height", "shelf"]) X G (by walk_at "d3")
  have Rt := a17.d (ps := ["bounds", "height", "shelf"]) X G (by walk_at "d3")
  have UT := a18.d (ps := ["shelf", "key"]) X G (by walk_at "d2")
  have Rc := a19.d (ps := ["bounds", "height", "shelf", "key", "amount"]) X G (by walk_at "d5")
  have Rh := a20.d (ps := ["shelf", "key"]) X G (by walk_at "d2")
  have T7 := a21.d (ps := ["thing"]) X G (by walk_at "d1")
  have U8 := a22.d (ps := ["thing"]) X G (by walk_at "d1")
  have UG := a23.d (ps := ["thing", "size"]) X G (by walk_at "d2")
  have Ul := a24.d (ps := ["bounds", "thing"]) X G (by walk_at "d2")
  have Ut := a25.d (ps := ["bounds", "thing"]) X G (by walk_at "d2")
  have Tj := a26.d (ps := ["bounds", "thing"]) X G (by walk_at "d2")
  have Ui := a27.d (ps := ["disk"]) X G (by walk_at "d1")
  have Tp := a28.d (ps := ["disk"]) X G (by walk_at "d1")
  have T9 := a29.d (ps := ["bounds", "disk"]) X G (by walk_at "d2")
  have Rv := a30.d (ps := ["disk", "writes"]) X G (by walk_at "d2")
  have Ub := a31.d (ps := ["area", "writes"]) X G (by walk_at "d2")
  have Uy := a32.d (ps := ["bounds", "disk", "key"]) X G (by walk_at "d3")
  have Rq := a33.d (ps := ["bounds", "disk", "key"]) X G (by walk_at "d3")
  have Q9 := a34.d (ps := ["bounds", "disk", "key", "amount"]) X G (by walk_at "d4")
  have Ql := a35.d (ps := ["bounds", "disk", "key"]) X G (by walk_at "d3")
  have TJ := a36.d (ps := ["bounds", "disk"]) X G (by walk_at "d2")
  have UJ := a37.d (ps := ["self", "bounds", "disk"]) (by walk_at "d3")
  have VR := a38.d (ps := ["self", "disk"]) (by walk_at "d2")
  have S9 := a39.d (ps := ["self"]) (by walk_at "d1")
  have lC := a40.d (ps := ["self", "key", "amount", "most"]) (ds := []) (fun _ _ _ _ _ _ _ us hl => by obtain ⟨_, _, _, _, rfl⟩ := tV (show us.length = 4 by simpa using hl); exact ⟨_, rfl, rfl⟩)
  have fK := a40.d (ps := ["self", "key", "amount", "most"]) (ds := [.none]) (fun _ _ _ _ _ _ _ us hl => by obtain ⟨_, _, _, rfl⟩ := ZQ (show us.length = 3 by simpa using hl); exact ⟨_, rfl, rfl⟩)
  have c7 := a41.d (ps := ["self", "key", "most"]) (ds := []) (fun _ _ _ _ _ _ _ us hl => by obtain ⟨_, _, _, rfl⟩ := ZQ (show us.length = 3 by simpa using hl); exact ⟨_, rfl, rfl⟩)
  have jA := a41.d (ps := ["self", "key", "most"]) (ds := [.none]) (fun _ _ _ _ _ _ _ us hl => by obtain ⟨_, _, rfl⟩ := ln2 (show us.length = 2 by simpa using hl); exact ⟨_, rfl, rfl⟩)
  have Q4 := a42.d (ps := ["self", "writes", "most"]) (by walk_at "d3")
  have R9 := a43.d (ps := ["self"]) (by walk_at "d1")
  have U0 := a44.d (ps := ["self"]) (by walk_at "d1")
  have Tv := a45.d (ps := ["self"]) (by walk_at "d1")
  have Us := a46.d (ps := ["self"]) (by walk_at "d1")
  have TX := a47.d (ps := ["self"]) (by walk_at "d1")
  have U9 := a48.d (ps := ["script", "k"]) X G (by walk_at "d2")
  have Va := a49.d (ps := ["cell"]) X G (by walk_at "d1")
  have Te := a50.d (ps := ["cell", "k"]) X G (by walk_at "d2")
  have U3 := a51.d (ps := ["cell"]) X G (by walk_at "d1")
  have Rr := a52.d (ps := ["height"]) X G (by walk_at "d1")
  have Sw := a53.d (ps := ["bounds", "height", "cell", "many"]) X G (by walk_at "d4")
  have S6 := a54.d (ps := ["cell", "k", "size", "things"]) X G (by walk_at "d4")
  have Su := a55.d (ps := ["bounds", "height", "which", "shelf", "cell"]) X G (by walk_at "d5")
  have Sx := a56.d (ps := ["bounds", "height"]) X G (by walk_at "d2")
  have Rz := a57.d (ps := ["keeper", "key", "cell"]) X G (by walk_at "d3")
  have Ux := a58.d (ps := ["keeper"]) X G (by walk_at "d1")
  have Rm := a59.d (ps := ["script"]) X G (by walk_at "d1")
  have yU : ∀ {C : Addr}, mroIn K C (.type "object") = some true → (PySem.W.clsIn K C).isSome = true := fun {C} e => by
    unfold mroIn at e
    cases q : PySem.W.clsIn K C with
    | none => rw [q] at e; cases e
    | some cd => rfl
  have y1 := yU mO1
  have y2 := yU mO2
  have kf : KF K mg Dc C1 C2 d1 d2 d3 d4 := ⟨mg_of X G q0, mg_of X G t1, mg_of X G t2, mg_of X G t3, mg_of X G t4, x0, x1, x2, ⟨ga1, gt1, cl1, mB1, mO1⟩, ⟨ga2, gt2, cl2, mB2, mO2⟩, y1, y2, s1, s2, ⟨mg_of X G q1, mg_of X G q2, i1, i2, i3, i4, j1, j2, j3, j4, (by show 4 ≤ 1000; decide)⟩⟩
  exact AJR Rm hfa fun base _ _ => chain kf T hl Uo SN Sd SQ TF Sq Ug U5 UW Tn Sg Tu VP Uu Ti Uj VL Rt UT Rc Rh T7 U8 UG Ul Ut Tj Ui Tp T9 Rv Ub Uy Rq Q9 Ql TJ UJ VR S9 lC fK c7 jA Q4 R9 U0 Tv Us TX U9 Va Te U3 Rr Sw S6 Su Sx Rz Ux Rm
end S29
set_option hygiene false
local macro_rules | `(tactic| walk_at "pu") => `(tactic| simp only [L2.Al, L2.Vd, L2.tW, L2.qH, L2.sU, L2.AHB, L2.IW, L2.fG, L2.V8, L2.Hu, L2.Dj, L2.XX, L2.zO, L2.uV, L2.zE, L2.Qy, L2.vN, L2.Xk, L2.sW, L2.NT, L2.Mu, L2.QW, L2.f9, L2.gY, L2.lO, L2.wV, L2.sG, L2.rG, L2.AFJ, L2.ABQ, L2.Z1, L2.uG, L2.mR, L2.Ay, L2.vS, L2.vF, L2.vL, L2.R4, L2.Rn, L2.Gv, L2.Ac, L2.Ma, L2.Aa, L2.Ad, L2.Ax, L2.Ff, L2.GX, L2.Ft, L2.Cu, L2.Gp, L2.Tz, L2.Qw, L2.Xz, L2.Je, L2.Ae, L2.Ab, L2.Be, L2.Bm, L2.Aw, L2.Ai, L2.BX, L2.Jx, L2.Bh, L2.Dr, L2.LR, L2.pJ, L2.Bq, L2.CQ, L2.lY, L2.Od, L2.Kg, L2.wA, L2.Gz, L2.Iu, L2.Fj, L2.GF, L2.DX, L2.O3, L2.ZD, L2.qY, L2.full, L2.masked, L2.t7,
  List.map_cons, List.map_nil, List.cons_append, List.nil_append, List.length_cons, List.length_nil, List.length_map, Nat.reduceAdd, Nat.reduceSub, Nat.zero_add, List.replicate_succ, List.replicate_zero, List.set_cons_succ, List.set_cons_zero, L2.wR, L2.uX, List.getElem?_cons_zero, List.getElem?_cons_succ, Option.join_some,
  L2.pB, L2.lV, L2.rR, L2.pO, L2.wN, L2.wZ, L2.Cq, L2.nY, Option.map_some, L2.sJ, L2.v9, L2.tG, L2.xT, L2.pA, L2.oJ, L2.uD, L2.t8, L2.Zc, L2.La, L2.VD, L2.wH, L2.RL, L2.nG, L2.wG, L2.vD, L2.rN, L2.wF, L2.Ot, L2.qI, L2.wQ, L2.lN, L2.uU, L2.zJ, L2.yR,
  L2.xN, L2.pP, L2.xU, L2.oZ, L2.n6, L2.nP, L2.qJ, L2.m6, L2.zB, L2.yF, L2.mV, L2.oX, L2.vK, L2.uW, L2.xF, L2.ZM, Bool.and_self, Bool.true_and, L2.yD, L2.wO, if_true, if_false, Bool.not_true, Bool.not_false, Bool.false_eq_true, L2.d7, L2.mJ, decide_true, decide_false, Bool.or_true, Bool.true_or, Bool.or_self, Bool.or_false, Bool.false_or, Bool.and_true, Bool.and_false, Bool.false_and, and_self, and_true, true_and, not_true_eq_false, not_false_eq_true, true_or, or_true, L2.J7, L2.Pu, L2.xP, L2.tU, L2.uB, L2.zT, L2.xJ, L2.uO, L2.vX, L2.tO, L2.mH, eq_self, L2.rD, L2.qL, L2.pY, L2.mL, L2.uJ, L2.Zw, L2.kW, L2.zH, L2.pU, L2.iB, L2.d8, L2.dJ, L2.Tq, Int.reduceLT, Int.reduceLE, Nat.reduceLT, Nat.reduceLeDiff, Int.reduceNeg, Int.reduceAdd, Int.reduceSub, Int.reduceMul, Nat.lt_irrefl, *])
set_option hygiene true
namespace S27
open PySem L2 LL S22
def inR (x y z : Int) : Bool := (decide (0 ≤ x) && decide (x ≤ 4)) && ((decide (1 ≤ y) && decide (y ≤ 20)) && (decide (z ≥ 1) && decide (y ≥ z * (x + 2))))
theorem AFq (x y z : Int) : Hd [.int x, .int y, .int z] = some (.bool (inR x y z)) := by
  refine Cv (o := .rt (.bool (inR x y z))) rfl ?_ rfl
  unfold gO inR
  by_cases c1 : 0 ≤ x
  · by_cases c2 : x ≤ 4
    · by_cases c3 : 1 ≤ y
      · by_cases c4 : y ≤ 20
        · refine Bp (ρ' := [.sh (.int x), .sh (.int y), .sh (.int z)]) (by walk_at "pu") ?_
          have sm : (small z || small (x + 2)) = true := by
            rw [Bool.or_eq_true_iff]
            right
            rw [d7]
            exact decide_eq_true ⟨by omega, by omega⟩
          have hm : DR (.int z) (.int (x + 2)) = some (.int (z * (x + 2))) := by rw [Zc, if_pos sm]
          by_cases c5 : z ≥ 1
          · clear sm
            walk_at "pu"
          · clear sm hm
            walk_at "pu"
        · refine Mf ?_
          walk_at "pu"
      · refine Mf ?_
        walk_at "pu"
    · refine Mf ?_
      walk_at "pu"
  · refine Mf ?_
    walk_at "pu"
theorem ABR (x y z : D) : CT (O3 (Aa 0)) (Ca 0) Cu (Ai Ip (Ab (Aa 0) Ae)) 1 [] [some (.tuple [x, y, z])] = some [.bool (DQ x), .bool (DQ y), .bool (DQ z)] := by
  refine (Hv (items := [x, y, z]) rfl (by simp)).trans ?_
  exact Oz (bd := Ca 0) (fe := Ai Ip (Ab (Aa 0) Ae)) (ρ0 := [none]) (fun x : D => x) (fun x => PyData.bool (DQ x)) [x, y, z] fun x hx => ⟨_, rfl, by
    show Option.bind (some [x]) Ip = _
    exact bU x⟩
theorem AGC (x y z : D) : Ku [.tuple [x, y, z]] = if DQ x && DQ y && DQ z then Hd [x, y, z] else some (.bool false) := by
  have hc := ABR x y z
  have hall : Lz [.list [.bool (DQ x), .bool (DQ y), .bool (DQ z)]] = some (.bool (DQ x && DQ y && DQ z)) := by
    cases DQ x <;> cases DQ y <;> cases DQ z <;> rfl
  have hl : CN [.tuple [x, y, z]] = some (.int 3) := rfl
  have i0 : Av (.tuple [x, y, z]) (.int 0) = some x := rfl
  have i1 : Av (.tuple [x, y, z]) (.int 1) = some y := rfl
  have i2 : Av (.tuple [x, y, z]) (.int 2) = some z := rfl
  have ty : Ib (.tuple [x, y, z]) = "tuple" := rfl
  have go : ∀ o, (Al (Bq (Ff (Ax (Ai Lz (Ab (Aw (CT (O3 (Aa 0)) (Ca 0) Cu (Ai Ip (Ab (Aa 0) Ae)) 1 [])) Ae))))
      (Bh (Ad (.bool false))) CQ)
    (Bh (Ai Hd (Ab (Ac Av (Aa 0) (Ad (.int 0))) (Ab (Ac Av (Aa 0) (Ad (.int 1))) (Ab (Ac Av (Aa 0) (Ad (.int 2))) Ae)))))) [.sh (.tuple [x, y, z])] = o → Um (HF 1 [.tuple [x, y, z]]) = o := by
    intro o ho
    unfold Um
    refine Bp (ρ' := [.sh (.tuple [x, y, z])]) ?_ ho
    generalize PyData.tuple [x, y, z] = T at *
    clear ho hc i0 i1 i2 hall
    walk_at "pu"
  generalize CT (O3 (Aa 0)) (Ca 0) Cu (Ai Ip (Ab (Aa 0) Ae)) 1 [] = PC at *
  show (if [PyData.tuple [x, y, z]].length = 1 then (Um (HF 1 [.tuple [x, y, z]])).bind outD else none) = _
  rw [if_pos (show [PyData.tuple [x, y, z]].length = 1 from rfl)]
  cases hb : DQ x && DQ y && DQ z with
  | false =>
    rw [hb] at hall
    rw [go (some (.rt (.bool false))) (by
      refine Mf ?_
      generalize PyData.tuple [x, y, z] = T at *
      generalize ([PyData.bool (DQ x), .bool (DQ y), .bool (DQ z)] : List D) = BB at *
      clear go hl i0 i1 i2 ty hb
      walk_at "pu")]
    rfl
  | true =>
    rw [hb] at hall
    have last : (Bh (Ai Hd (Ab (Ac Av (Aa 0) (Ad (.int 0))) (Ab (Ac Av (Aa 0) (Ad (.int 1))) (Ab (Ac Av (Aa 0) (Ad (.int 2))) Ae))))) [.sh (.tuple [x, y, z])] = (Hd [x, y, z]).map Out.rt := by
      show Option.bind (Option.bind (Option.bind (Av (.tuple [x, y, z]) (.int 0)) fun a => Option.bind (Option.bind (Av (.tuple [x, y, z]) (.int 1)) fun b => Option.bind (Option.bind (Av (.tuple [x, y, z]) (.int 2)) fun c => some [c]) fun r => some (b :: r)) fun r => some (a :: r)) Hd) _ = _
      rw [i0, i1, i2]
      show Option.bind (Hd [x, y, z]) _ = _
      cases Hd [x, y, z] <;> rfl
    rw [go ((Hd [x, y, z]).map Out.rt) (by
      refine Bp (ρ' := [.sh (.tuple [x, y, z])]) ?_ last
      generalize PyData.tuple [x, y, z] = T at *
      generalize ([PyData.bool (DQ x), .bool (DQ y), .bool (DQ z)] : List D) = BB at *
      clear go hl i0 i1 i2 ty hb last
      walk_at "pu")]
    cases Hd [x, y, z] <;> rfl
theorem AGF (x y z : Int) : Ku [.tuple [.int x, .int y, .int z]] = some (.bool (inR x y z)) := by
  rw [AGC]
  show (if true = true then Hd [.int x, .int y, .int z] else _) = _
  rw [if_pos rfl, AFq]
theorem AG0 {t w st : Nat} (bd : Bd (t : Int) (w : Int) (st : Int)) : Ku [Az t w st] = some (.bool true) := by
  rw [AGF]
  congr 2
  have h1 := bd.t0; have h2 := bd.t4; have h3 := bd.s1; have h4 := bd.lo; have h5 := bd.hi; have h6 := bd.w1
  unfold inR
  rw [decide_eq_true h1, decide_eq_true h2, decide_eq_true h6, decide_eq_true h5, decide_eq_true h3, decide_eq_true h4]
  rfl
end S27
namespace S27
open PySem L2 LL S22
theorem u5 {m : Str} : ∀ {ks : List Str} {ds : List D}, m ∉ ks → Io m ((ks.zip ds).map fun p => (PyData.str p.1, p.2)) = none
  | [], _, _ => rfl
  | _ :: _, [], _ => rfl
  | k :: ks, d :: ds, h => by
    show (if m = k then some d else Io m ((ks.zip ds).map fun p => (PyData.str p.1, p.2))) = none
    rw [if_neg fun z => h (by rw [z]; exact CW)]
    exact u5 fun z => h (BZ z)
theorem JR {m : Str} {ks : List Str} {ds : List D} (h : m ∉ ks) : Du m (.dict (Dq ks ds)) = true := by
  show (Io m ((ks.zip ds).map fun p => (PyData.str p.1, p.2))).isNone = true
  rw [u5 h]
  rfl
theorem Jm {f : Str} {ks : List Str} {d : D} {ds : List D} : HJ f (.dict (Dq (f :: ks) (d :: ds))) = some d := by
  show (if f = f then some d else _) = _
  rw [if_pos rfl]
theorem Ex {f g : Str} {ks : List Str} {d : D} {ds : List D} (h : f ≠ g) : HJ f (.dict (Dq (g :: ks) (d :: ds))) = HJ f (.dict (Dq ks ds)) := by
  show (if f = g then some d else Io f ((ks.zip ds).map fun p => (PyData.str p.1, p.2))) = _
  rw [if_neg h]
  rfl
theorem lR {f : Str} {d : D} : ∀ {ks : List Str} {ds : List D}, ks.length = ds.length → f ∉ ks → Hi f d ks ds = (ks ++ [f], ds ++ [d])
  | [], [], _, _ => rfl
  | k :: ks, e :: ds, hl, h => by
    have ih := lR (f := f) (d := d) (ks := ks) (ds := ds) (by simpa using hl) fun z => h (BZ z)
    show (if k = f then (k :: ks, d :: ds) else (k :: (Hi f d ks ds).1, e :: (Hi f d ks ds).2)) = _
    rw [if_neg fun z => h (by rw [z]; exact CW), ih]
    rfl
  | [], _ :: _, hl, _ => by simp at hl
  | _ :: _, [], hl, _ => by simp at hl
def Lq (S : List Thing) (a : Nat) : List Wr := match Ec none 0 S with
  | none => []
  | some p => [(a, p, none)]
def HX (w : Nat) (k : Dk) (a h : Nat) : Dk := Om k (Lq (Bx w k a h) a)
theorem X7 {t w n a h : Nat} {k : Dk} {A B : List Thing} (d : Ej k (2 ^ t * w) a h A B) (ht : h ≤ t) : (Bx w k a h).length = 2 ^ h * w := by
  unfold Bx
  rw [List.length_take, d.ar.2]
  have : 2 ^ h * w ≤ 2 ^ t * w := Nat.mul_le_mul_right w (Nat.pow_le_pow_right (by decide) ht)
  omega
theorem AEj {t w a h : Nat} {k : Dk} {A B : List Thing} (d : Ej k (2 ^ t * w) a h A B) (ht : h ≤ t) : ∀ q ∈ Lq (Bx w k a h) a, Wf k q := by
  intro q hq
  unfold Lq at hq
  cases hs : Ec none 0 (Bx w k a h) with
  | none => rw [hs] at hq; cases hq
  | some p =>
    rw [hs] at hq
    rw [List.mem_singleton.mp hq]
    have hp := cD _ 0 none p hs
    have hl := X7 (n := 0) d ht
    have hle : 2 ^ h * w ≤ 2 ^ t * w := Nat.mul_le_mul_right w (Nat.pow_le_pow_right (by decide) ht)
    have ha := d.ar
    have a2 := d.a2
    refine ⟨by rw [d.eq]; show a < 3; omega, ?_⟩
    show p < (Ni k a).length
    rw [ha.2]
    omega
theorem rE {t w a h : Nat} {k : Dk} {A B : List Thing} (d : Ej k (2 ^ t * w) a h A B) (ht : h ≤ t) : ∃ A' B', Ej (HX w k a h) (2 ^ t * w) a h A' B' ∧ Bx w (HX w k a h) a h = Cr (Bx w k a h) := by
  unfold HX Lq
  cases hs : Ec none 0 (Bx w k a h) with
  | none => exact ⟨A, B, d, by show Bx w k a h = _; unfold Cr; rw [hs]⟩
  | some p =>
    have hp := cD _ 0 none p hs
    have hl := X7 (n := 0) d ht
    have a2 := d.a2
    have hm : Cr (Bx w k a h) = (Bx w k a h).set p none := by unfold Cr; rw [hs]
    have hpw : p < 2 ^ h * w := by omega
    rw [hm]
    rcases (by omega : a = 0 ∨ a = 1) with rfl | rfl
    · have ek : Om k [(0, p, none)] = [A.set p none, B, [some (((0 : Nat) : Int), (h : Int))]] := by rw [d.eq]; rfl
      refine ⟨A.set p none, B, ⟨ek, by rw [List.length_set]; exact d.lA, d.lB, by decide⟩, ?_⟩
      have e1 : Bx w k 0 h = A.take (2 ^ h * w) := by rw [d.eq]; rfl
      have e2 : Bx w (Om k [(0, p, none)]) 0 h = (A.set p none).take (2 ^ h * w) := by rw [ek]; rfl
      rw [e1, e2, List.take_set]
    · have ek : Om k [(1, p, none)] = [A, B.set p none, [some (((1 : Nat) : Int), (h : Int))]] := by rw [d.eq]; rfl
      refine ⟨A, B.set p none, ⟨ek, d.lA, by rw [List.length_set]; exact d.lB, by decide⟩, ?_⟩
      have e1 : Bx w k 1 h = B.take (2 ^ h * w) := by rw [d.eq]; rfl
      have e2 : Bx w (Om k [(1, p, none)]) 1 h = (B.set p none).take (2 ^ h * w) := by rw [ek]; rfl
      rw [e1, e2, List.take_set]
theorem AKG {t w st a h : Nat} {k : Dk} {A B : List Thing} (d : Ej k (2 ^ t * w) a h A B) (h4 : h ≤ 4) : R0 [Az t w st, BK k] = some ((Lq (Bx w k a h) a).map Fv) := by
  have hs := Qt (w := w) (st := st) (t := (t : Int)) d h4
  have h2 := uE (Bx w k a h)
  have ha := Zx d
  have hs' : Eb [Az t w st, BK k] = some ((Bx w k a h).map encD) := hs
  generalize Bx w k a h = S at *
  refine Hs rfl ?_
  unfold fJ Lq
  show Al _ _ [.sh (Az t w st), .sh (BK k), .no] = _
  generalize Az t w st = Bo at *
  generalize BK k = E at *
  cases pX : Ec none 0 S with
  | none =>
    rw [pX] at h2
    have h2' : J6 [.list (S.map encD)] = some .none := h2
    generalize S.map encD = SD at *
    refine Bp (ρ' := [.sh Bo, .sh E, .sh .none]) (by clear h2 hs ha; walk_at "pu") ?_
    refine sZ ?_
    clear h2 hs ha h2' hs'
    walk_at "pu"
  | some p =>
    rw [pX] at h2
    have h2' : J6 [.list (S.map encD)] = some (.int (p : Nat)) := h2
    have ho : Ln [.int (a : Int), .list [.tuple [.int (p : Int), .tuple []]]] = some [Fv (a, p, none)] := AJ5 a [(p, none)] (by simp)
    have er : ([((a, p, none) : Wr)]).map Fv = [Fv (a, p, none)] := rfl
    rw [er]
    generalize Fv (a, p, none) = W3 at *
    generalize S.map encD = SD at *
    refine Bp (ρ' := [.sh Bo, .sh E, .sh (.int (p : Nat))]) (by clear h2 hs ha ho; walk_at "pu") ?_
    refine Bp (ρ' := [.sh Bo, .sh E, .sh (.int (p : Nat))]) (by clear h2 hs ha ho h2' hs'; walk_at "pu") ?_
    clear h2 hs h2' hs'
    walk_at "pu"
def Jr : List Str := ["bounds", "lying", "puts", "moves", "laid", "first_excess", "first_over"]
def Cw (B E : D) (e o : Int) : D := .dict (Dq Jr [B, E, .int 0, .int 0, .int 0, .int e, .int o])
theorem AHW (k : Dk) : (Dw k).all GJ = true := List.all_eq_true.mpr fun ds hd => by
  obtain ⟨ts, _, rfl⟩ := List.mem_map.mp hd
  exact Tq ts
theorem rW {t w st a h : Nat} {k : Dk} {A B : List Thing} (d : Ej k (2 ^ t * w) a h A B) (h4 : h ≤ 4) {ks : List Str} {ds : List D} : Kl [.dict (Dq ("bounds" :: "lying" :: ks) (Az t w st :: BK k :: ds))] = some ((Bx w k a h).map encD) := by
  have hs : Eb [Az t w st, BK k] = some ((Bx w k a h).map encD) := Qt (w := w) (st := st) (t := (t : Int)) d h4
  have a1 : HJ "bounds" (.dict (Dq ("bounds" :: "lying" :: ks) (Az t w st :: BK k :: ds))) = some (Az t w st) := Jm
  have a2 : HJ "lying" (.dict (Dq ("bounds" :: "lying" :: ks) (Az t w st :: BK k :: ds))) = some (BK k) := by rw [Ex (by decide +kernel)]; exact Jm
  refine Hs rfl ?_
  unfold jW
  generalize PyData.dict (Dq ("bounds" :: "lying" :: ks) (Az t w st :: BK k :: ds)) = O at *
  generalize Az t w st = Bo at *
  generalize BK k = E at *
  walk_at "pu"
theorem Zv {t w st a h : Nat} {k : Dk} {A B : List Thing} (bd : Bd (t : Int) (w : Int) (st : Int)) (d : Ej k (2 ^ t * w) a h A B) (ht : h ≤ t) {ks : List Str} {ds : List D} (hk : ("shelf" : Str) ∉ ks) : (∃ e : Int, Lx [.dict (Dq ("bounds" :: "lying" :: ks) (Az t w st :: BK k :: ds))] = some (.int e)) ∧ ∃ o : Int, Ls [.dict (Dq ("bounds" :: "lying" :: ks) (Az t w st :: BK k :: ds))] = some (.int o) := by
  have t4 : t ≤ 4 := by have := bd.t4; omega
  have w20 : w ≤ 20 := by have := bd.hi; omega
  have w1 : 1 ≤ w := by have := bd.w1; omega
  have s20 : st ≤ 20 := by
    have h1 := bd.lo
    have h2 := bd.t0
    have h3 : (st : Int) * 2 ≤ (st : Int) * ((t : Int) + 2) := Int.mul_le_mul_of_nonneg_left (by omega) (by omega)
    omega
  have hsm := rW (st := st) d (by omega) (ks := ks) (ds := ds)
  have hh := R3 d
  have hl := X7 (n := 0) d ht
  have hz := Oi (k := h) (w := w) (by omega) w1 w20
  have he := AEJ (Bx w k a h) (t : Int) w st h w1 w20 s20 (by omega) hl
  have ho := AJ2 (Bx w k a h) (t : Int) w st h s20 (by omega) (by omega)
  have he' : QR [Az t w st, .int (h : Int), .list ((Bx w k a h).map encD)] = _ := he
  have ho' : RV [Az t w st, .int (h : Int), .list ((Bx w k a h).map encD)] = _ := ho
  have a1 : HJ "bounds" (.dict (Dq ("bounds" :: "lying" :: ks) (Az t w st :: BK k :: ds))) = some (Az t w st) := Jm
  have a2 : HJ "lying" (.dict (Dq ("bounds" :: "lying" :: ks) (Az t w st :: BK k :: ds))) = some (BK k) := by rw [Ex (by decide +kernel)]; exact Jm
  have om : Du "shelf" (.dict (Dq ("bounds" :: "lying" :: ks) (Az t w st :: BK k :: ds))) = true := JR (by
    intro z
    rcases List.mem_cons.mp z with z | z
    · exact absurd z (by decide +kernel)
    · rcases List.mem_cons.mp z with z | z
      · exact absurd z (by decide +kernel)
      · exact hk z)
  generalize Bx w k a h = S at *
  generalize PyData.dict (Dq ("bounds" :: "lying" :: ks) (Az t w st :: BK k :: ds)) = O at *
  generalize Az t w st = Bo at *
  generalize BK k = E at *
  generalize S.map encD = SD at *
  generalize j7 S w st h = ev at *
  generalize max 0 (((things S).length : Int) - SJ (w : Int) (st : Int) h) = ov at *
  refine ⟨⟨ev, Cv (o := .rt (.int ev)) rfl ?_ rfl⟩, ⟨ov, Cv (o := .rt (.int ov)) rfl ?_ rfl⟩⟩
  · unfold bK
    clear he ho ho' hl
    walk_at "pu"
  · unfold jR
    clear he ho he' hl
    walk_at "pu"
end S27
namespace S27
open PySem L2 LL S22
theorem O4 {i : Nat} {f : Str} {vf : Aq → Option Sl} {ρ : Aq} {a : Addr} {ks : List Str} {ds : List D} {d : D} (hv : vf ρ = some (.sh d)) (hi : ρ[i]? = some (.tr a (.obj ks ds))) (hl : ks.length = ds.length) (hs : ks.length < 1000) (hf : f ∉ ks) :
    IW i f vf ρ = some (.nx (ρ.set i (.tr a (.obj (ks ++ [f]) (ds ++ [d]))))) := by
  unfold IW
  rw [hv, Cq]
  show Option.bind (some d) _ = _
  rw [Cq, hi, Cq, Z1, Cq, if_pos hs, lR hl hf]
theorem AKJ {t w st a h : Nat} {k : Dk} {A B : List Thing} (bd : Bd (t : Int) (w : Int) (st : Int)) (d : Ej k (2 ^ t * w) a h A B) (ht : h ≤ t) : ∃ e o : Int, ∀ x : Addr, QD x (["bounds"], [Az t w st]) [BK k] = some (.none, (Jr, [Az t w st, BK (HX w k a h), .int 0, .int 0, .int 0, .int e, .int o])) := by
  have t4 : t ≤ 4 := by have := bd.t4; omega
  have hm := AKG (st := st) d (by omega)
  have hw := gP k (Lq (Bx w k a h) a) (by rw [d.eq]; show 3 < 16777216; decide) (AEj d ht)
  have hek : BK (HX w k a h) = .list ((Dw (HX w k a h)).map PyData.list) := V3 _
  have hfl := AHW (HX w k a h)
  obtain ⟨A', B', d', hsh⟩ := rE d ht
  obtain ⟨⟨e, he⟩, _⟩ := Zv bd d' ht (ks := ["puts", "moves", "laid"]) (ds := [.int 0, .int 0, .int 0]) (by decide +kernel)
  obtain ⟨_, ⟨o, ho⟩⟩ := Zv bd d' ht (ks := ["puts", "moves", "laid", "first_excess"]) (ds := [.int 0, .int 0, .int 0, .int e]) (by decide +kernel)
  refine ⟨e, o, fun x => ?_⟩
  have hw' : HH [BK k, .list ((Lq (Bx w k a h) a).map Fv)] = some (Dw (HX w k a h)) := hw
  generalize (Lq (Bx w k a h) a).map Fv = WS at *
  generalize Dw (HX w k a h) = DS at *
  generalize BK (HX w k a h) = E' at *
  have hb : HJ "bounds" (.dict (Dq ["bounds"] [Az t w st])) = some (Az t w st) := Jm
  have ome : Du "excess" (.dict (Dq ["bounds", "lying", "puts", "moves", "laid"] [Az t w st, E', .int 0, .int 0, .int 0])) = true := JR (by decide +kernel)
  have omo : Du "over" (.dict (Dq ["bounds", "lying", "puts", "moves", "laid", "first_excess"] [Az t w st, E', .int 0, .int 0, .int 0, .int e])) = true := JR (by decide +kernel)
  have main : Ro (startM 2 x (["bounds"], [Az t w st]) [BK k]) = some (.nx [.tr x (.obj Jr [Az t w st, E', .int 0, .int 0, .int 0, .int e, .int o]), .sh (BK k)]) := by
    unfold Ro
    show Al _ _ [.tr x (.obj ["bounds"] [Az t w st]), .sh (BK k)] = _
    refine Bp (O4 (d := E') (ks := ["bounds"]) (ds := [Az t w st]) ?_ rfl rfl (by decide) (by decide +kernel)) ?_
    · rw [hek]
      have ob : Sl.view (.tr x (.obj ["bounds"] [Az t w st])) = some (.dict (Dq ["bounds"] [Az t w st])) := rfl
      generalize PyData.dict (Dq ["bounds"] [Az t w st]) = O at *
      generalize Sl.tr x (.obj ["bounds"] [Az t w st]) = SX at *
      generalize Az t w st = Bo at *
      generalize BK k = E at *
      clear hek ome omo he ho hw
      walk_at "pu"
    refine Bp (O4 (d := .int 0) (ks := ["bounds", "lying"]) (ds := [Az t w st, E']) rfl rfl rfl (by decide) (by decide +kernel)) ?_
    refine Bp (O4 (d := .int 0) (ks := ["bounds", "lying", "puts"]) (ds := [Az t w st, E', .int 0]) rfl rfl rfl (by decide) (by decide +kernel)) ?_
    refine Bp (O4 (d := .int 0) (ks := ["bounds", "lying", "puts", "moves"]) (ds := [Az t w st, E', .int 0, .int 0]) rfl rfl rfl (by decide) (by decide +kernel)) ?_
    refine Bp (O4 (d := .int e) (ks := ["bounds", "lying", "puts", "moves", "laid"]) (ds := [Az t w st, E', .int 0, .int 0, .int 0]) ?_ rfl rfl (by decide) (by decide +kernel)) ?_
    · show Option.bind (Option.bind (some (PyData.dict (Dq ["bounds", "lying", "puts", "moves", "laid"] [Az t w st, E', .int 0, .int 0, .int 0]))) fun d => Option.bind (some []) fun ds => if Du "excess" d = true then Lx (d :: ds) else none) _ = _
      rw [Cq, Cq, if_pos ome, he]
      rfl
    refine (O4 (d := .int o) (ks := ["bounds", "lying", "puts", "moves", "laid", "first_excess"]) (ds := [Az t w st, E', .int 0, .int 0, .int 0, .int e]) ?_ rfl rfl (by decide) (by decide +kernel)).trans rfl
    show Option.bind (Option.bind (some (PyData.dict (Dq ["bounds", "lying", "puts", "moves", "laid", "first_excess"] [Az t w st, E', .int 0, .int 0, .int 0, .int e]))) fun d => Option.bind (some []) fun ds => if Du "over" d = true then Ls (d :: ds) else none) _ = _
    rw [Cq, Cq, if_pos omo, ho]
    rfl
  show (if [BK k].length + 1 = 2 then (Ro (startM 2 x (["bounds"], [Az t w st]) [BK k])).bind (YK x) else none) = _
  rw [if_pos (show [BK k].length + 1 = 2 from rfl), main, Cq]
  show (if x = x then some (PyData.none, _) else none) = _
  rw [if_pos rfl]
theorem AGP {t w st a h : Nat} {k : Dk} {A B : List Thing} (bd : Bd (t : Int) (w : Int) (st : Int)) (d : Ej k (2 ^ t * w) a h A B) (ht : h ≤ t) (hd : Ke [Az t w st, BK k] = some (.bool true)) : ∃ e o : Int, ∀ x : Addr, Kp x ([], []) [Az t w st, BK k] = some (.none, (Jr, [Az t w st, BK (HX w k a h), .int 0, .int 0, .int 0, .int e, .int o])) := by
  obtain ⟨e, o, hc⟩ := AKJ bd d ht
  have hb := AG0 bd
  refine ⟨e, o, fun x => ?_⟩
  have hc' := hc x
  generalize BK (HX w k a h) = E' at *
  generalize BK k = E at *
  have main : T5 (startM 3 x ([], []) [Az t w st, E]) = some (.nx [.tr x (.obj Jr [Az t w st, E', .int 0, .int 0, .int 0, .int e, .int o]), .sh (Az t w st), .sh E]) := by
    unfold T5
    show Al _ _ [.tr x (.obj [] []), .sh (Az t w st), .sh E] = _
    generalize Az t w st = Bo at *
    refine Bp (ρ' := [.tr x (.obj [] []), .sh Bo, .sh E]) (by clear hd hc hc'; generalize Sl.tr x (.obj [] []) = SX at *; walk_at "pu") ?_
    refine Bp (ρ' := [.tr x (.obj [] []), .sh Bo, .sh E]) (by clear hb hc hc'; generalize Sl.tr x (.obj [] []) = SX at *; walk_at "pu") ?_
    refine Bp (O4 (d := Bo) (ks := []) (ds := []) rfl rfl rfl (by decide) (by simp)) ?_
    show Option.bind (Option.bind (some (Sl.tr x (.obj ["bounds"] [Bo]))) fun s => (Nf s).bind fun q => Option.bind (some [E]) fun as => if q.2.1.contains "come_up" = true then none else (QD q.1 q.2 as).bind fun y => some (y.1, List.set [Sl.tr x (.obj ["bounds"] [Bo]), .sh Bo, .sh E] 0 (.tr q.1 (.obj y.2.1 y.2.2)))) _ = _
    rw [Cq, Z1, Cq, Cq, if_neg (by show ¬ (["bounds"] : List Str).contains "come_up" = true; decide +kernel), hc']
    rfl
  show (if [Az t w st, E].length + 1 = 3 then (T5 (startM 3 x ([], []) [Az t w st, E])).bind (YK x) else none) = _
  rw [if_pos (show [Az t w st, E].length + 1 = 3 from rfl), main, Cq]
  show (if x = x then some (PyData.none, _) else none) = _
  rw [if_pos rfl]
theorem AFR {t w st a h : Nat} {k : Dk} {A B : List Thing} (bd : Bd (t : Int) (w : Int) (st : Int)) (d : Ej k (2 ^ t * w) a h A B) (ht : h ≤ t) (hd : Ke [Az t w st, BK k] = some (.bool true)) : ∃ e o : Int, Mx Kp [Az t w st, BK k] = some (Cw (Az t w st) (BK (HX w k a h)) e o) := by
  obtain ⟨e, o, hi⟩ := AGP bd d ht hd
  exact ⟨e, o, mk_eq hi⟩
theorem O6 {c : PB} {A B : Am} {ρ : Aq} (h : c (full ρ) = some true) : Bq c A B ρ = A ρ := by
  unfold Bq
  rw [h]
  rfl
theorem K1 {c : PB} {A B : Am} {ρ : Aq} (h : c (full ρ) = some false) : Bq c A B ρ = B ρ := by
  unfold Bq
  rw [h]
  rfl
theorem Sh {c : PB} {A B : En} {ρ : Aq} (h : c (full ρ) = some true) : HY c A B ρ = A ρ := by
  unfold HY
  rw [h]
  rfl
theorem Vs {c : PB} {A B : En} {ρ : Aq} (h : c (full ρ) = some false) : HY c A B ρ = B ρ := by
  unfold HY
  rw [h]
  rfl
theorem Wt {F : Am} {G G' : En} {ρ : Aq} {C : Str} (h : G ρ = some C) : Gr F G G' ρ = some C := by
  unfold Gr
  rw [h]
theorem AAQ {t w st a h : Nat} {k : Dk} {A B : List Thing} {e o : Int} (d : Ej k (2 ^ t * w) a h A B) (ht : h ≤ t) (t4 : t ≤ 4) (w20 : w ≤ 20) (w1 : 1 ≤ w) : QZ [Cw (Az t w st) (BK k) e o] = some ((things (Cr (Bx w k a h))).map Cp) := by
  have hs : Kl [Cw (Az t w st) (BK k) e o] = _ := rW (st := st) d (by omega)
  have hz := Oi (k := h) (w := w) (by omega) w1 w20
  have hl := X7 (n := 0) d ht
  have hr := n8 (Bx w k a h) (by omega)
  rw [dG] at hr
  have om : Du "shelf" (Cw (Az t w st) (BK k) e o) = true := JR (by decide +kernel)
  generalize Cw (Az t w st) (BK k) e o = O at *
  generalize (Bx w k a h).map encD = SD at *
  refine Hs rfl ?_
  unfold ZP
  clear hl hz
  walk_at "pu"
end S27
namespace S29
open PySem L2 LL S22 S27
theorem TV {F : Am} {G G' : En} {ρ ρ' : Aq} (h : G ρ = none) (hF : F ρ = some (.nx ρ')) : Gr F G G' ρ = G' ρ' := by
  unfold Gr
  rw [h, hF]
  rfl
theorem AJl {ts : List Thing} {t : Int} {w st hh : Nat} {k b : Int} (hl : ts.length ≤ 320) (h4 : hh ≤ 4) (Fw : st ≤ 20) (hk : k ∉ keysOf ts) (hc : (2 : Int) ^ hh * ((w : Int) - hh * st) ≤ ((keysOf ts).length : Int)) :
    Nq [.tuple [.int t, .int (w : Int), .int (st : Int)], .int (hh : Int), .list (ts.map encD), .int k, .int b] = some (Str.ofString "Full") := by
  have hp := Vy ts k
  rw [(Vo (k := k) ts 0).mpr hk] at hp
  have hp' : Ho [.list (ts.map encD), .int k] = some .none := hp
  have hheld := held_eq ts (by omega) 0 ts.length
  rw [yH, show ((0 : Nat) : Int) = 0 from rfl] at hheld
  have hcap := gC (t := t) (w := w) (st := st) (h := hh) h4 Fw
  have hcl : (keysOf ts).length = (things ts).length := by rw [XN, List.length_map]
  rw [hcl] at hc
  have hl3 : (ts.map encD).length = ts.length := List.length_map _
  clear hp hk hcl Fw
  generalize (2 : Int) ^ hh * ((w : Int) - (hh : Int) * (st : Int)) = C at *
  generalize ((things ts).length : Int) = n at *
  have hlen : ts.length < 16777216 := by omega
  clear hl h4
  generalize ts.length = len at *
  generalize ts.map encD = S at *
  generalize hB : (PyData.tuple [.int t, .int (w : Int), .int (st : Int)] : D) = B at *
  have e1 : (Ay 5 (vS (Ai Ho (Ab (Aa 2) (Ab (Aa 3) Ae))))) [.sh B, .sh (.int (hh : Int)), .sh (.list S), .sh (.int k), .sh (.int b), .no, .no] = some (.nx [.sh B, .sh (.int (hh : Int)), .sh (.list S), .sh (.int k), .sh (.int b), .sh .none, .no]) := by
    clear hheld hcap hc hl3 hB
    walk_at "pu"
  have e2 : (Bq (Ax (Ac Pu (Aa 5) (Ad .none))) (Dr (Bm (Ab (Be (Ab (Aa 5) (Ab (Be (Ab (Aa 3) (Ab (Aa 4) Ae))) Ae))) Ae))) CQ) [.sh B, .sh (.int (hh : Int)), .sh (.list S), .sh (.int k), .sh (.int b), .sh .none, .no] = some (.nx [.sh B, .sh (.int (hh : Int)), .sh (.list S), .sh (.int k), .sh (.int b), .sh .none, .no]) := by
    clear hheld hcap hc hl3 hB hp' e1
    walk_at "pu"
  have e3 : (Ax (Ac Mz (Ai Gk (Ab (Aa 2) (Ab (Ad (.int 0)) (Ab (Ai CN (Ab (Aa 2) Ae)) Ae)))) (Ai HD (Ab (Aa 0) (Ab (Aa 1) Ae))))) (full [.sh B, .sh (.int (hh : Int)), .sh (.list S), .sh (.int k), .sh (.int b), .sh .none, .no]) = some true := by
    clear hp' e1 e2 hB
    walk_at "pu"
  show V0 [.sh B, .sh (.int (hh : Int)), .sh (.list S), .sh (.int k), .sh (.int b), .no, .no] = some (Str.ofString "Full")
  unfold V0
  rw [TV rfl e1, TV rfl e2]
  exact Wt (Sh e3)
theorem AJ1 {ts : List Thing} {k : Int} (hk : k ∉ keysOf ts) : Pk [.list (ts.map encD), .int k] = some (Str.ofString "NoKey") := by
  have hp := Vy ts k
  rw [(Vo (k := k) ts 0).mpr hk] at hp
  have hp' : Ho [.list (ts.map encD), .int k] = some .none := hp
  generalize ts.map encD = S at *
  have e1 : (Ay 2 (vS (Ai Ho (Ab (Aa 0) (Ab (Aa 1) Ae))))) [.sh (.list S), .sh (.int k), .no] = some (.nx [.sh (.list S), .sh (.int k), .sh .none]) := by
    clear hp
    walk_at "pu"
  have e3 : (Ax (Ac J7 (Aa 2) (Ad .none))) (full [.sh (.list S), .sh (.int k), .sh .none]) = some true := by
    clear hp hp' e1
    walk_at "pu"
  show XC [.sh (.list S), .sh (.int k), .no] = some (Str.ofString "NoKey")
  unfold XC
  rw [TV rfl e1]
  exact Wt (Sh e3)
theorem ADn {k : Dk} {n a t w st : Nat} {A B : List Thing} {key : Int} (d : Ej k n a t A B) (h4 : t ≤ 4) : Nh [Az t w st, BK k, .int key] = some [] := by
  have e2 := R3 d
  have e4 : Eb [Az t w st, BK k] = _ := Qt (w := w) (st := st) (t := (t : Int)) d h4
  have hB0 : Av (Az t w st) (.int 0) = some (.int (t : Int)) := rfl
  have hm : Pa [Az t w st, BK k, .int key] = some (.bool false) := by
    refine Cv (o := .rt (.bool false)) rfl ?_ rfl
    unfold VB
    generalize Az t w st = Bo at *
    generalize BK k = E at *
    generalize (Bx w k a t).map encD = S at *
    refine Bp (ρ' := [.sh Bo, .sh E, .sh (.int key), .sh (.list S), .no]) (by clear e2 hB0; walk_at "pu") ?_
    refine Bp (ρ' := [.sh Bo, .sh E, .sh (.int key), .sh (.list S), .sh (.int (t : Int))]) (by clear e4 hB0; walk_at "pu") ?_
    refine Mf ?_
    refine (O6 ?_).trans rfl
    show Option.bind (Option.bind (Av Bo (.int 0) |>.bind fun y => Bj (.int (t : Int)) y) _) _ = _
    rw [hB0, Cq, Ot, decide_eq_true rfl]
    rfl
  refine Hs rfl ?_
  unfold VM
  generalize Az t w st = Bo at *
  generalize BK k = E at *
  refine sZ ?_
  clear e2 e4 hB0
  walk_at "pu"
theorem ACT {k : Dk} {n a t w st : Nat} {A B : List Thing} {key b : Int} (d : Ej k n a t A B) (h4 : t ≤ 4) (hx : Nq [Az t w st, .int (t : Int), .list ((Bx w k a t).map encD), .int key, .int b] = some (Str.ofString "Full")) :
    Nt [Az t w st, BK k, .int key, .int b] = some (Str.ofString "Full") := by
  have hg := ADn (w := w) (st := st) (key := key) d h4
  have hk3 : k.length = 3 := by rw [d.eq]; rfl
  have e1 : HH [BK k, .list []] = some (Dw k) := gP k [] (by omega) (fun q hq => by cases hq)
  have e2 := R3 d
  have e4 : Eb [Az t w st, BK k] = _ := Qt (w := w) (st := st) (t := (t : Int)) d h4
  have eK := V3 k
  generalize Az t w st = Bo at *
  have g1 : (Ay 4 (vS (Aw (BX Nh (Ab (Aa 0) (Ab (Aa 1) (Ab (Aa 2) Ae))))))) [.sh Bo, .sh (BK k), .sh (.int key), .sh (.int b), .no, .no, .no] = some (.nx [.sh Bo, .sh (BK k), .sh (.int key), .sh (.int b), .sh (.list []), .no, .no]) := by
    clear e1 e2 e4 eK hx
    walk_at "pu"
  have g2 : (Ay 5 (vS (Aw (Mu (NT HH (Ab (Aa 1) (Ab (Aa 4) Ae))))))) [.sh Bo, .sh (BK k), .sh (.int key), .sh (.int b), .sh (.list []), .no, .no] = some (.nx [.sh Bo, .sh (BK k), .sh (.int key), .sh (.int b), .sh (.list []), .sh (BK k), .no]) := by
    have e1' : HH [.list ((Dw k).map PyData.list), .list []] = some (Dw k) := by rw [← eK]; exact e1
    rw [eK]
    clear e1 e2 e4 eK hx g1 hg
    walk_at "pu"
  have ga : (Ab (Aa 0) (Ab (Ai Fy (Ab (Aa 5) Ae)) (Ab (Aw (BX Eb (Ab (Aa 0) (Ab (Aa 5) Ae)))) (Ab (Aa 2) (Ab (Aa 3) Ae))))) (masked [.sh Bo, .sh (BK k), .sh (.int key), .sh (.int b), .sh (.list []), .sh (BK k), .no]) = some [Bo, .int (t : Int), .list ((Bx w k a t).map encD), .int key, .int b] := by
    clear e1 eK hx g1 g2 hg
    walk_at "pu"
  show Wn [.sh Bo, .sh (BK k), .sh (.int key), .sh (.int b), .no, .no, .no] = some (Str.ofString "Full")
  unfold Wn
  rw [TV rfl g1, TV rfl g2]
  refine Wt ?_
  show Option.bind _ Nq = _
  rw [ga]
  exact hx
theorem AHh {k : Dk} {n a h t w st : Nat} {A B : List Thing} {key : Int} (d : Ej k n a h A B) (h4 : h ≤ 4) (hx : Pk [.list ((Bx w k a h).map encD), .int key] = some (Str.ofString "NoKey")) : K3 [Az t w st, BK k, .int key] = some (Str.ofString "NoKey") := by
  have e3 := Zx d
  have e4 : Eb [Az t w st, BK k] = _ := Qt (w := w) (st := st) (t := (t : Int)) d h4
  generalize Az t w st = Bo at *
  have ga : (Ab (Aw (BX Eb (Ab (Aa 0) (Ab (Aa 1) Ae)))) (Ab (Aa 2) Ae)) [some Bo, some (BK k), some (.int key)] = some [.list ((Bx w k a h).map encD), .int key] := by
    clear hx e3
    walk_at "pu"
  have gb : (Ai Ik (Ab (Aa 1) Ae)) [some Bo, some (BK k), some (.int key)] = some (.int (a : Int)) := by
    clear hx e4 ga
    walk_at "pu"
  show Option.bind ((Ai Ik (Ab (Aa 1) Ae)) [some Bo, some (BK k), some (.int key)]) _ = _
  rw [gb]
  show Option.bind ((Ab (Aw (BX Eb (Ab (Aa 0) (Ab (Aa 1) Ae)))) (Ab (Aa 2) Ae)) [some Bo, some (BK k), some (.int key)]) Pk = _
  rw [ga]
  exact hx
theorem oK {B E : D} {e o : Int} : HJ "bounds" (Cw B E e o) = some B := Jm
theorem aJ {B E : D} {e o : Int} : HJ "lying" (Cw B E e o) = some E := by
  unfold Cw Jr
  rw [Ex (by decide +kernel)]
  exact Jm
theorem AHQ {B E : D} {e o key b : Int} {most : D} (h : Nt [B, E, .int key, .int b] = some (Str.ofString "Full")) : Ir [Cw B E e o, .int key, .int b, most] = some (Str.ofString "Full") := by
  have a1 := oK (B := B) (E := E) (e := e) (o := o)
  have a2 := aJ (B := B) (E := E) (e := e) (o := o)
  generalize Cw B E e o = O at *
  show Wq [.sh O, .sh (.int key), .sh (.int b), .sh most, .no, .no, .no, .no, .no] = _
  unfold Wq
  refine Wt ?_
  have ga : (Ab (Dj (Aa 0) "bounds") (Ab (Dj (Aa 0) "lying") (Ab (Aa 1) (Ab (Aa 2) Ae)))) (masked [.sh O, .sh (.int key), .sh (.int b), .sh most, .no, .no, .no, .no, .no]) = some [B, E, .int key, .int b] := by
    clear h
    walk_at "pu"
  show Option.bind _ Nt = _
  rw [ga]
  exact h
theorem AGK {B E : D} {e o key : Int} {most : D} (h : K3 [B, E, .int key] = some (Str.ofString "NoKey")) : Ii [Cw B E e o, .int key, most] = some (Str.ofString "NoKey") := by
  have a1 := oK (B := B) (E := E) (e := e) (o := o)
  have a2 := aJ (B := B) (E := E) (e := e) (o := o)
  have om : Du "do_writes" (Cw B E e o) = true := JR (by decide +kernel)
  generalize Cw B E e o = O at *
  have ga : (Ab (Dj (Aa 0) "bounds") (Ab (Dj (Aa 0) "lying") (Ab (Aa 1) Ae))) [some O, some (.int key), some most] = some [B, E, .int key] := by
    clear h om
    walk_at "pu"
  show (if Du "do_writes" O = true then (QG _ (O9 (Ab (Dj (Aa 0) "bounds") (Ab (Dj (Aa 0) "lying") (Ab (Aa 1) Ae))) K3) _) [some O, some (.int key), some most] else none) = _
  rw [if_pos om]
  unfold QG
  have gb : (O9 (Ab (Dj (Aa 0) "bounds") (Ab (Dj (Aa 0) "lying") (Ab (Aa 1) Ae))) K3) [some O, some (.int key), some most] = some (Str.ofString "NoKey") := by
    show Option.bind _ K3 = _
    rw [ga]
    exact h
  rw [gb]
section
variable {O M : D} {key c : Int}
theorem t4 (k : Int) : (Ax (Ac Bj (Ac BV (Aa 2) (Ad (.int 4))) (Ad (.int k)))) (full [.sh O, .sh (.int key), .sh (.int c), .sh (.list []), .sh M, .no]) = some (decide (c % 4 = k)) := by
  show Option.bind (Option.bind (BV (.int c) (.int 4)) _) _ = _
  rw [La, if_pos (by decide), Cq]
  show Option.bind (Bj (.int (c % 4)) (.int k)) _ = _
  rw [Ot]
  rfl
theorem QX {k : Int} (h : c % 4 = k) : (Ax (Ac Bj (Ac BV (Aa 2) (Ad (.int 4))) (Ad (.int k)))) (full [.sh O, .sh (.int key), .sh (.int c), .sh (.list []), .sh M, .no]) = some true := by rw [t4, decide_eq_true h]
theorem Px {k : Int} (h : c % 4 ≠ k) : (Ax (Ac Bj (Ac BV (Aa 2) (Ad (.int 4))) (Ad (.int k)))) (full [.sh O, .sh (.int key), .sh (.int c), .sh (.list []), .sh M, .no]) = some false := by rw [t4, decide_eq_false h]
end
def FK : Am := (Bq (Ax (Ac Bj (Ac BV (Aa 2) (Ad (.int 4))) (Ad (.int 0)))) FN (Bq (Ax (Ac Bj (Ac BV (Aa 2) (Ad (.int 4))) (Ad (.int 1)))) FN (Bq (Ax (Ac Bj (Ac BV (Aa 2) (Ad (.int 4))) (Ad (.int 2)))) FN FN)))
def GK : Aq → Option Str := (HY (Ax (Ac Bj (Ac BV (Aa 2) (Ad (.int 4))) (Ad (.int 0)))) (Lf "put" Ir (Aa 0) (Ab (Aa 1) (Ab (Ad (.int 3)) Ae)) [.none]) (HY (Ax (Ac Bj (Ac BV (Aa 2) (Ad (.int 4))) (Ad (.int 1)))) (Lf "put" Ir (Aa 0) (Ab (Aa 1) (Ab (Ad (.int 3)) (Ab (Aa 4) Ae))) []) (HY (Ax (Ac Bj (Ac BV (Aa 2) (Ad (.int 4))) (Ad (.int 2)))) (Lf "take" Ii (Aa 0) (Ab (Aa 1) Ae) [.none]) (Lf "take" Ii (Aa 0) (Ab (Aa 1) (Ab (Aa 4) Ae)) []))))
theorem AHE {O M : D} {key c : Int} : FK [.sh O, .sh (.int key), .sh (.int c), .sh (.list []), .sh M, .no] = none := by
  unfold FK
  by_cases h0 : c % 4 = 0
  · exact (O6 (QX h0)).trans rfl
  · rw [K1 (Px h0)]
    by_cases h1 : c % 4 = 1
    · exact (O6 (QX h1)).trans rfl
    · rw [K1 (Px h1)]
      by_cases h2 : c % 4 = 2
      · exact (O6 (QX h2)).trans rfl
      · exact (K1 (Px h2)).trans rfl
theorem uA {O : D} {key c : Int} {x : Str} {es : List D} (h : ∀ M, GK [.sh O, .sh (.int key), .sh (.int c), .sh (.list []), .sh M, .no] = some x) (hk : kJ "Full" "NoKey" x = some es) : Fp [O, .int key, .int c] = some (.list es) := by
  have m3 := FW (c / 4) (b := 3) (by decide)
  obtain ⟨M, hM, eM⟩ := Mw ([.int 0, .int 1, .int 1000] : List D) (i := c / 4 % 3) m3.1 m3.2
  have eM' : Av (.list [.int 0, .int 1, .int 1000]) (.int (c / 4 % 3)) = some M := eM
  clear eM hM
  refine Cv (o := .rt (.list es)) rfl ?_ rfl
  unfold R8
  refine Bp (ρ' := [.sh O, .sh (.int key), .sh (.int c), .sh (.list []), .no, .no]) rfl ?_
  refine Bp (ρ' := [.sh O, .sh (.int key), .sh (.int c), .sh (.list []), .sh M, .no]) ?_ ?_
  · clear h hk
    show Option.bind (Option.bind (Option.bind (Option.bind (CJ (.int c) (.int 4)) fun x => BV x (.int 3)) fun y => Av (.list [.int 0, .int 1, .int 1000]) y) _) _ = _
    rw [VD, if_pos (by decide), Cq, La, if_pos (by decide), Cq, eM']
    rfl
  refine Bp (ρ' := [.sh O, .sh (.int key), .sh (.int c), .sh (.list es), .sh M, .no]) ?_ rfl
  show Oq 3 5 "Full" "NoKey" FK GK _ = _
  unfold Oq
  rw [if_pos ⟨rfl, by decide, by show 3 < 6; decide⟩, AHE]
  show Option.bind (GK [.sh O, .sh (.int key), .sh (.int c), .sh (.list []), .sh M, .no]) _ = _
  rw [h M, Cq, hk]
  rfl
theorem AAy {O : D} {key c : Int} (om : Du "put" O = true) (hc : c % 4 = 0 ∨ c % 4 = 1) (h : ∀ most, Ir [O, .int key, .int 3, most] = some (Str.ofString "Full")) : Fp [O, .int key, .int c] = some (.list [.bool true, .bool false, .bool false, .bool true]) := by
  refine uA (x := Str.ofString "Full") (fun M => ?_) rfl
  unfold GK
  rcases hc with h0 | h1
  · rw [Sh (QX h0)]
    show (if Du "put" O = true then Ir [O, .int key, .int 3, .none] else none) = _
    rw [if_pos om, h]
  · rw [Vs (Px (by omega)), Sh (QX h1)]
    show (if Du "put" O = true then Ir [O, .int key, .int 3, M] else none) = _
    rw [if_pos om, h]
theorem ABH {O : D} {key c : Int} (om : Du "take" O = true) (hc : c % 4 = 2 ∨ c % 4 = 3) (h : ∀ most, Ii [O, .int key, most] = some (Str.ofString "NoKey")) : Fp [O, .int key, .int c] = some (.list [.bool false, .bool true, .bool false, .bool true]) := by
  refine uA (x := Str.ofString "NoKey") (fun M => ?_) rfl
  unfold GK
  rw [Vs (Px (by omega)), Vs (Px (by omega))]
  rcases hc with h0 | h1
  · rw [Sh (QX h0)]
    show (if Du "take" O = true then Ii [O, .int key, .none] else none) = _
    rw [if_pos om, h]
  · rw [Vs (Px (by omega))]
    show (if Du "take" O = true then Ii [O, .int key, M] else none) = _
    rw [if_pos om, h]
theorem ACt (xs : List Pr) : PyData.canLayAll0 (xs.map Cp) = true ∧ PyData.depthAll (xs.map Cp) ≤ 2 ∧ PyData.eqvAll (xs.map Cp) (xs.map Cp) = true := by
  have e : xs.map Cp = (xs.map some).map encD := by rw [List.map_map]; rfl
  rw [e]
  have h := jD.all (xs.map some)
  refine ⟨h.1, Nat.le_trans h.2 (by decide), ?_⟩
  rw [jD.eqvAll]
  simp
theorem AKT {t w st a h : Nat} {k : Dk} {A B : List Thing} {e o : Int} (bd : Bd (t : Int) (w : Int) (st : Int)) (d : Ej k (2 ^ t * w) a h A B) (ht : h ≤ t) (t4 : t ≤ 4) (w20 : w ≤ 20) (w1 : 1 ≤ w) :
    ∃ v : List D, Lr [Cw (Az t w st) (BK k) e o] = some v ∧ Bu (.list v) (.list v) = some (.bool false) := by
  obtain ⟨⟨ev, he⟩, ⟨ov, ho⟩⟩ := Zv (st := st) bd d ht (ks := ["puts", "moves", "laid", "first_excess", "first_over"]) (ds := [.int 0, .int 0, .int 0, .int e, .int o]) (by decide +kernel)
  have hr := AAQ (st := st) (e := e) (o := o) d ht t4 w20 w1
  have he : Lx [Cw (Az t w st) (BK k) e o] = some (.int ev) := he
  have ho : Ls [Cw (Az t w st) (BK k) e o] = some (.int ov) := ho
  have hk3 : k.length = 3 := by rw [d.eq]; rfl
  have hwr : HH [BK k, .list []] = some (Dw k) := gP k [] (by omega) (fun q hq => by cases hq)
  have a2 := aJ (B := Az t w st) (E := BK k) (e := e) (o := o)
  have hd : R6 [Cw (Az t w st) (BK k) e o] = some ((Dw k).map PyData.list) := by
    generalize Cw (Az t w st) (BK k) e o = KP at *
    refine Hs rfl ?_
    unfold fV
    clear he ho hr
    generalize BK k = E at *
    walk_at "pu"
  have hcn : VN [Cw (Az t w st) (BK k) e o] = some (.tuple [.int 0, .int 0, .int 0, .int e, .int o]) := by
    have b1 : HJ "puts" (Cw (Az t w st) (BK k) e o) = some (.int 0) := by
      unfold Cw Jr
      rw [Ex (by decide +kernel), Ex (by decide +kernel)]
      exact Jm
    have b2 : HJ "moves" (Cw (Az t w st) (BK k) e o) = some (.int 0) := by
      unfold Cw Jr
      rw [Ex (by decide +kernel), Ex (by decide +kernel), Ex (by decide +kernel)]
      exact Jm
    have b3 : HJ "laid" (Cw (Az t w st) (BK k) e o) = some (.int 0) := by
      unfold Cw Jr
      rw [Ex (by decide +kernel), Ex (by decide +kernel), Ex (by decide +kernel), Ex (by decide +kernel)]
      exact Jm
    have b4 : HJ "first_excess" (Cw (Az t w st) (BK k) e o) = some (.int e) := by
      unfold Cw Jr
      rw [Ex (by decide +kernel), Ex (by decide +kernel), Ex (by decide +kernel), Ex (by decide +kernel), Ex (by decide +kernel)]
      exact Jm
    have b5 : HJ "first_over" (Cw (Az t w st) (BK k) e o) = some (.int o) := by
      unfold Cw Jr
      rw [Ex (by decide +kernel), Ex (by decide +kernel), Ex (by decide +kernel), Ex (by decide +kernel), Ex (by decide +kernel), Ex (by decide +kernel)]
      exact Jm
    generalize Cw (Az t w st) (BK k) e o = KP at *
    refine Cv (o := .rt (.tuple [.int 0, .int 0, .int 0, .int e, .int o])) rfl ?_ rfl
    unfold bQ
    clear he ho hr hd hwr a2
    walk_at "pu"
  have o1 : Du "disk" (Cw (Az t w st) (BK k) e o) = true := JR (by decide +kernel)
  have o2 : Du "rows" (Cw (Az t w st) (BK k) e o) = true := JR (by decide +kernel)
  have o3 : Du "counts" (Cw (Az t w st) (BK k) e o) = true := JR (by decide +kernel)
  have o4 : Du "excess" (Cw (Az t w st) (BK k) e o) = true := JR (by decide +kernel)
  have o5 : Du "over" (Cw (Az t w st) (BK k) e o) = true := JR (by decide +kernel)
  refine ⟨[.list ((Dw k).map PyData.list), .list ((things (Cr (Bx w k a h))).map Cp), .tuple [.int 0, .int 0, .int 0, .int e, .int o], .int ev, .int ov], ?_, ?_⟩
  · generalize Cw (Az t w st) (BK k) e o = KP at *
    generalize (things (Cr (Bx w k a h))).map Cp = TH at *
    generalize (Dw k).map PyData.list = DK at *
    refine Hs rfl ?_
    unfold gZ
    clear hwr a2
    walk_at "pu"
  · rw [← V3]
    obtain ⟨l1, l2, l3⟩ := ACt (things (Cr (Bx w k a h)))
    have k1 := gD.lay k
    have k2 := gD.dep k
    have k3 : PyData.eqv (BK k) (BK k) = true := by rw [gD.eqv]; simp
    have sh : SeqAt.shaped (.list [BK k, .list ((things (Cr (Bx w k a h))).map Cp), .tuple [.int 0, .int 0, .int 0, .int e, .int o], .int ev, .int ov]) = true := by
      generalize (things (Cr (Bx w k a h))).map Cp = TH at *
      generalize BK k = E at *
      unfold SeqAt.shaped
      simp only [PyData.canLay0, PyData.canLayAll0, PyData.depth, PyData.depthAll, l1, k1, Bool.and_true, Bool.true_and, decide_eq_true_eq]
      simp
      omega
    have ev' : PyData.eqv (.list [BK k, .list ((things (Cr (Bx w k a h))).map Cp), .tuple [.int 0, .int 0, .int 0, .int e, .int o], .int ev, .int ov]) (.list [BK k, .list ((things (Cr (Bx w k a h))).map Cp), .tuple [.int 0, .int 0, .int 0, .int e, .int o], .int ev, .int ov]) = true := by
      generalize (things (Cr (Bx w k a h))).map Cp = TH at *
      generalize BK k = E at *
      simp [PyData.eqv, PyData.eqvAll, k3, l3]
    unfold Bu
    rw [if_pos ⟨sh, sh⟩, ev']
    rfl
theorem AHo {d : D} (h : SeqAt.shaped d = true) (e : PyData.eqv d d = true) : Bu d d = some (.bool false) := by
  unfold Bu
  rw [if_pos ⟨h, h⟩, e]
  rfl
theorem AGO (ts : List Thing) (hl : ts.length < 16777216) {fi : BW} {ρ : Bf} (h : fi ρ = some (ts.map encD)) : CT fi (Ca 0) (Ax (Ac Bu (Aa 0) (Be Ae))) (Ac Av (Aa 0) (Ad (.int 0))) 1 [] ρ = some ((keysOf ts).map PyData.int) := by
  rw [Hv h (by simpa using hl), Np encD FJ (fun t : Thing => PyData.int ((t.getD (0, 0)).1)), zF]
  intro t _
  refine ⟨_, rfl, ?_, fun h => ?_⟩
  · show Ax _ [some (encD t)] = some (!decide (t = none))
    clear h
    walk_at "pu"
  · cases t with
    | none => cases h
    | some x => obtain ⟨k, w⟩ := x; rfl
theorem AGk (k : Int) (ks : List Int) : Nz true (.int k) (.list (ks.map PyData.int)) = some (.bool (decide (k ∉ ks))) := by
  show (JV (ks.map PyData.int)).bind _ = _
  rw [L2.Vk]
  show some (PyData.bool (!(ks.any fun n => n == k))) = _
  congr 2
  rw [Bool.eq_iff_iff]
  simp
  exact ⟨fun h hk => h k hk rfl, fun h x hx e => h (e ▸ hx)⟩
theorem ABn {Sc : D} {z : Int} {t' w st : Nat} (bd : Bd (t' : Int) (w : Int) (st : Int)) : ∃ t : Nat, Bd (t : Int) (w : Int) (st : Int) ∧ t ≤ 2 ∧ (Bq (Ax (Ac G3 (Ac Av (Aa 1) (Ad (.int 0))) (Ad (.int 2)))) (Ay 1 (vS (Be (Ab (Ad (.int 2)) (Ab (Ac Av (Aa 1) (Ad (.int 1))) (Ab (Ac Av (Aa 1) (Ad (.int 2))) Ae)))))) CQ) [.sh Sc, .sh (Az t' w st), .sh (.int z), .no, .no, .no, .no, .no, .no, .no, .no, .no] = some (.nx [.sh Sc, .sh (Az t w st), .sh (.int z), .no, .no, .no, .no, .no, .no, .no, .no, .no]) := by
  have tst : (Ax (Ac G3 (Ac Av (Aa 1) (Ad (.int 0))) (Ad (.int 2)))) (full [.sh Sc, .sh (Az t' w st), .sh (.int z), .no, .no, .no, .no, .no, .no, .no, .no, .no]) = some (decide ((t' : Int) > 2)) := rfl
  by_cases h : (t' : Int) > 2
  · rw [decide_eq_true h] at tst
    refine ⟨2, ⟨by decide, by decide, bd.s1, ?_, bd.hi⟩, Nat.le_refl _, (O6 tst).trans rfl⟩
    have h1 := bd.lo
    have h2 : (st : Int) * (((2 : Nat) : Int) + 2) ≤ (st : Int) * ((t' : Int) + 2) := Int.mul_le_mul_of_nonneg_left (by omega) (by omega)
    omega
  · rw [decide_eq_false h] at tst
    exact ⟨t', bd, by omega, (K1 tst).trans rfl⟩
theorem AAq {Bo Sc : D} {z : Int} {t : Nat} (hB0 : Av Bo (.int 0) = some (.int (t : Int))) (t2 : t ≤ 2) : ∃ h : Nat, h ≤ t ∧ (Ay 3 (vS (Ac Av (Aw (Bm (Ab (Ac BV (Ac CJ (Aa 2) (Ad (.int 2))) (Ac Ck (Ac Av (Aa 1) (Ad (.int 0))) (Ad (.int 1)))) (Ab (Ac Av (Aa 1) (Ad (.int 0))) Ae)))) (Ac BV (Aa 2) (Ad (.int 2)))))) [.sh Sc, .sh Bo, .sh (.int z), .no, .no, .no, .no, .no, .no, .no, .no, .no] = some (.nx [.sh Sc, .sh Bo, .sh (.int z), .sh (.int (h : Int)), .no, .no, .no, .no, .no, .no, .no, .no]) := by
  have mt := FW (z / 2) (b := (t : Int) + 1) (by omega)
  have m2 := FW z (b := 2) (by decide)
  obtain ⟨h, hh⟩ := Int.eq_ofNat_of_zero_le mt.1
  have p1 : (0 : Int) < (t : Int) + 1 := by omega
  have p2 : (t : Int) + 1 < 1073741824 := by omega
  have hmod : BV (.int (z / 2)) (.int ((t : Int) + 1)) = some (.int (h : Int)) := by rw [La, if_pos p1, hh]
  by_cases e : z % 2 = 0
  · refine ⟨h, by omega, ?_⟩
    clear mt hh m2
    walk_at "pu"
  · have e1 : z % 2 = 1 := by omega
    refine ⟨t, Nat.le_refl _, ?_⟩
    clear mt hh m2 e
    walk_at "pu"
theorem AAg {Bo Sc : D} {z : Int} {t h : Nat} (hB0 : Av Bo (.int 0) = some (.int (t : Int))) : ∃ fl : Bool, (fl = true → h = t) ∧ (Ay 4 (vS (Gp (Ac Bj (Aa 3) (Ac Av (Aa 1) (Ad (.int 0)))) (Ac Bj (Ac BV (Ac CJ (Aa 2) (Ad (.int 9))) (Ad (.int 2))) (Ad (.int 1)))))) [.sh Sc, .sh Bo, .sh (.int z), .sh (.int (h : Int)), .no, .no, .no, .no, .no, .no, .no, .no] = some (.nx [.sh Sc, .sh Bo, .sh (.int z), .sh (.int (h : Int)), .sh (.bool fl), .no, .no, .no, .no, .no, .no, .no]) := by
  by_cases q : (h : Int) = (t : Int)
  · refine ⟨decide (z / 9 % 2 = 1), fun _ => by omega, ?_⟩
    have q' : decide ((h : Int) = (t : Int)) = true := decide_eq_true q
    have qe : Bj (.int (h : Int)) (.int (t : Int)) = some (.bool true) := by rw [Ot, q']
    clear q q'
    walk_at "pu"
  · refine ⟨false, fun q => (Bool.noConfusion q), ?_⟩
    have q' : decide ((h : Int) = (t : Int)) = false := decide_eq_false q
    have qe : Bj (.int (h : Int)) (.int (t : Int)) = some (.bool false) := by rw [Ot, q']
    clear q q'
    walk_at "pu"
theorem body {Sc Bo S KP : D} {z c : Int} {h : Nat} {fl : Bool} {ks : List Int} {s9 s10 s11 : Sl} {v : List D} (hks : ks.length < 1000) (hsh : Lr [KP] = some v) (hne : Bu (.list v) (.list v) = some (.bool false)) (MJ : ∀ key c : Int, fl = true → key ∉ ks → (c % 4 = 0 ∨ c % 4 = 1) → Fp [KP, .int key, .int c] = some (.list [.bool true, .bool false, .bool false, .bool true])) (htake : ∀ key c : Int, key ∉ ks → (c % 4 = 2 ∨ c % 4 = 3) → Fp [KP, .int key, .int c] = some (.list [.bool false, .bool true, .bool false, .bool true])) :
    ∃ s9' W0 ZF, MK [.sh Sc, .sh Bo, .sh (.int z), .sh (.int (h : Int)), .sh (.bool fl), .sh S, .sh KP, .sh (.list (ks.map PyData.int)), .sh (.int c), s9, s10, s11] = some (.nx [.sh Sc, .sh Bo, .sh (.int z), .sh (.int (h : Int)), .sh (.bool fl), .sh S, .sh KP, .sh (.list (ks.map PyData.int)), .sh (.int c), s9', W0, ZF]) := by
  have tp := RL 58
  obtain ⟨k0, e0⟩ : ∃ k0 : Int, (Ay 9 (vS (Ac Av (Aw (Bm (Ab (Ac BV (Aa 8) (Ac G9 (Ad (.int 10)) (Ad (.int 58)))) (Ab (Ma M9 (Ac BV (Aa 8) (Ac G9 (Ad (.int 10)) (Ad (.int 58))))) Ae)))) (Ac BV (Ac CJ (Aa 8) (Ad (.int 12))) (Ad (.int 2)))))) [.sh Sc, .sh Bo, .sh (.int z), .sh (.int (h : Int)), .sh (.bool fl), .sh S, .sh KP, .sh (.list (ks.map PyData.int)), .sh (.int c), s9, s10, s11] = some (.nx [.sh Sc, .sh Bo, .sh (.int z), .sh (.int (h : Int)), .sh (.bool fl), .sh S, .sh KP, .sh (.list (ks.map PyData.int)), .sh (.int c), .sh (.int k0), s10, s11]) := by
    have m2 := FW (c / 12) (b := 2) (by decide)
    by_cases e : c / 12 % 2 = 0
    · refine ⟨c % G7 58, ?_⟩
      clear MJ htake hsh hne m2 hks
      generalize ks.map PyData.int = KS at *
      walk_at "pu"
    · have e1 : c / 12 % 2 = 1 := by omega
      refine ⟨-(c % G7 58), ?_⟩
      clear MJ htake hsh hne m2 hks e
      generalize ks.map PyData.int = KS at *
      walk_at "pu"
  obtain ⟨key, e1⟩ : ∃ key : Int, (Bq (GX (Ax (Ac Bu (Aa 7) (Aw (Bm Ae)))) (Ax (Ac Bj (Ac BV (Ac CJ (Aa 8) (Ad (.int 24))) (Ad (.int 2))) (Ad (.int 0)))))
        (Ay 9 (vS (Ac Ck (Ac Av (Aa 7) (Ac BV (Ac CJ (Aa 8) (Ad (.int 48))) (Ai CN (Ab (Aa 7) Ae)))) (Ad (.int 1))))) CQ) [.sh Sc, .sh Bo, .sh (.int z), .sh (.int (h : Int)), .sh (.bool fl), .sh S, .sh KP, .sh (.list (ks.map PyData.int)), .sh (.int c), .sh (.int k0), s10, s11] = some (.nx [.sh Sc, .sh Bo, .sh (.int z), .sh (.int (h : Int)), .sh (.bool fl), .sh S, .sh KP, .sh (.list (ks.map PyData.int)), .sh (.int c), .sh (.int key), s10, s11]) := by
    have hne0 : Bu (.list (ks.map PyData.int)) (.list []) = some (.bool (!decide (ks = []))) := by
      have := (AEx.list).Bu (by decide) ks []
      exact this
    have c24 : (Ax (Ac Bj (Ac BV (Ac CJ (Aa 8) (Ad (.int 24))) (Ad (.int 2))) (Ad (.int 0)))) (full [.sh Sc, .sh Bo, .sh (.int z), .sh (.int (h : Int)), .sh (.bool fl), .sh S, .sh KP, .sh (.list (ks.map PyData.int)), .sh (.int c), .sh (.int k0), s10, s11]) = some (decide (c / 24 % 2 = 0)) := by
      show Option.bind (Option.bind (Option.bind (CJ (.int c) (.int 24)) fun x => BV x (.int 2)) fun x => Bj x (.int 0)) _ = _
      rw [VD, if_pos (by decide), Cq, La, if_pos (by decide), Cq, Ot]
      rfl
    have tst : (GX (Ax (Ac Bu (Aa 7) (Aw (Bm Ae)))) (Ax (Ac Bj (Ac BV (Ac CJ (Aa 8) (Ad (.int 24))) (Ad (.int 2))) (Ad (.int 0))))) (full [.sh Sc, .sh Bo, .sh (.int z), .sh (.int (h : Int)), .sh (.bool fl), .sh S, .sh KP, .sh (.list (ks.map PyData.int)), .sh (.int c), .sh (.int k0), s10, s11]) = some (!decide (ks = []) && decide (c / 24 % 2 = 0)) := by
      have p0 : (Ax (Ac Bu (Aa 7) (Aw (Bm Ae)))) (full [.sh Sc, .sh Bo, .sh (.int z), .sh (.int (h : Int)), .sh (.bool fl), .sh S, .sh KP, .sh (.list (ks.map PyData.int)), .sh (.int c), .sh (.int k0), s10, s11]) = some (!decide (ks = [])) := by
        show Option.bind (Bu (.list (ks.map PyData.int)) (.list [])) _ = _
        rw [hne0]
        rfl
      unfold GX
      rw [p0, Cq]
      cases decide (ks = []) with
      | true => rfl
      | false => exact c24
    by_cases hn : ks = []
    · refine ⟨k0, ?_⟩
      rw [decide_eq_true hn] at tst
      exact (K1 tst).trans rfl
    · rw [decide_eq_false hn] at tst
      by_cases hc : c / 24 % 2 = 0
      · rw [decide_eq_true hc] at tst
        have hl : 0 < ks.length := List.length_pos_iff.mpr hn
        have mk := FW (c / 48) (b := (ks.length : Int)) (by omega)
        obtain ⟨y, _, ey⟩ := Mw ks (i := c / 48 % (ks.length : Int)) mk.1 mk.2
        have ey' : Av (.list (ks.map PyData.int)) (.int (c / 48 % (ks.length : Int))) = some (.int y) := by
          obtain ⟨j, hj⟩ := Int.eq_ofNat_of_zero_le mk.1
          rw [hj] at ey ⊢
          show DW (ks.map PyData.int) (j : Int) = _
          rw [Q0] at ey ⊢
          rw [List.getElem?_map, ey]
          rfl
        refine ⟨y + 1, (O6 tst).trans ?_⟩
        have hlm : (ks.map PyData.int).length = ks.length := List.length_map ..
        have hlp : (0 : Int) < (ks.length : Int) := by omega
        have hlq : (ks.length : Int) < 1073741824 := by omega
        have hlr : ks.length < 16777216 := by omega
        have hmod : BV (.int (c / 48)) (.int (ks.length : Int)) = some (.int (c / 48 % (ks.length : Int))) := by rw [La, if_pos hlp]
        clear MJ htake hsh hne hks e0 tst c24 hne0 ey mk hl hn
        generalize ks.map PyData.int = KS at *
        walk_at "pu"
      · rw [decide_eq_false hc] at tst
        exact ⟨k0, (K1 tst).trans rfl⟩
  have hin := AGk key ks
  have cg : (Ax (Ac G3 (Ac BV (Aa 8) (Ad (.int 4))) (Ad (.int 1)))) (full [.sh Sc, .sh Bo, .sh (.int z), .sh (.int (h : Int)), .sh (.bool fl), .sh S, .sh KP, .sh (.list (ks.map PyData.int)), .sh (.int c), .sh (.int key), s10, s11]) = some (decide (c % 4 > 1)) := by
    show Option.bind (Option.bind (BV (.int c) (.int 4)) fun x => G3 x (.int 1)) _ = _
    rw [La, if_pos (by decide), Cq]
    rfl
  have tst : (GX (Ax (Ac (Nz true) (Aa 9) (Aa 7))) (Ft (Ax (Ac G3 (Ac BV (Aa 8) (Ad (.int 4))) (Ad (.int 1)))) (Ax (Aa 4)))) (full [.sh Sc, .sh Bo, .sh (.int z), .sh (.int (h : Int)), .sh (.bool fl), .sh S, .sh KP, .sh (.list (ks.map PyData.int)), .sh (.int c), .sh (.int key), s10, s11]) = some (decide (key ∉ ks) && (decide (c % 4 > 1) || fl)) := by
    have p0 : (Ax (Ac (Nz true) (Aa 9) (Aa 7))) (full [.sh Sc, .sh Bo, .sh (.int z), .sh (.int (h : Int)), .sh (.bool fl), .sh S, .sh KP, .sh (.list (ks.map PyData.int)), .sh (.int c), .sh (.int key), s10, s11]) = some (decide (key ∉ ks)) := by
      show Option.bind (Nz true (.int key) (.list (ks.map PyData.int))) _ = _
      rw [hin]
      rfl
    have p2 : (Ax (Aa 4)) (full [.sh Sc, .sh Bo, .sh (.int z), .sh (.int (h : Int)), .sh (.bool fl), .sh S, .sh KP, .sh (.list (ks.map PyData.int)), .sh (.int c), .sh (.int key), s10, s11]) = some fl := rfl
    unfold GX Ft
    rw [p0, Cq]
    cases decide (key ∉ ks) with
    | false => rfl
    | true =>
      rw [if_pos rfl, cg, Cq]
      cases decide (c % 4 > 1) with
      | true => rfl
      | false => exact p2
  have m4 := FW c (b := 4) (by decide)
  have go : ∀ es : List D, Fp [KP, .int key, .int c] = some (.list es) → es = [.bool (decide (c % 4 < 2)), .bool (decide (c % 4 > 1)), .bool false, .bool true] → decide (key ∉ ks) = true → (decide (c % 4 > 1) || fl) = true →
      ∃ s9' W0 ZF, MK [.sh Sc, .sh Bo, .sh (.int z), .sh (.int (h : Int)), .sh (.bool fl), .sh S, .sh KP, .sh (.list (ks.map PyData.int)), .sh (.int c), s9, s10, s11] = some (.nx [.sh Sc, .sh Bo, .sh (.int z), .sh (.int (h : Int)), .sh (.bool fl), .sh S, .sh KP, .sh (.list (ks.map PyData.int)), .sh (.int c), s9', W0, ZF]) := by
    intro es hk hes h1 h2
    rw [h1, h2] at tst
    refine ⟨.sh (.int key), .sh (.list v), .sh (.list es), ?_⟩
    unfold MK
    refine Bp e0 (Bp e1 ((O6 tst).trans ?_))
    have hself : Bu (.list es) (.list es) = some (.bool false) := by
      rw [hes]
      cases decide (c % 4 < 2) <;> cases decide (c % 4 > 1) <;> exact AHo (by decide +kernel) (by decide +kernel)
    refine Bp (ρ' := [.sh Sc, .sh Bo, .sh (.int z), .sh (.int (h : Int)), .sh (.bool fl), .sh S, .sh KP, .sh (.list (ks.map PyData.int)), .sh (.int c), .sh (.int key), .sh (.list v), s11]) ?_ ?_
    · show Option.bind (Option.bind (Option.map PyData.list (Lr [KP])) _) _ = _
      rw [hsh]
      rfl
    refine Bp (ρ' := [.sh Sc, .sh Bo, .sh (.int z), .sh (.int (h : Int)), .sh (.bool fl), .sh S, .sh KP, .sh (.list (ks.map PyData.int)), .sh (.int c), .sh (.int key), .sh (.list v), .sh (.list es)]) ?_ ?_
    · rw [hes]
      clear MJ htake hsh hne hks e0 e1 tst hin cg hk hes hself h1 h2 m4
      generalize ks.map PyData.int = KS at *
      walk_at "pu"
    · refine (K1 ?_).trans rfl
      have p0 : (Ax (Ac Bu (Ai Fp (Ab (Aa 6) (Ab (Aa 9) (Ab (Aa 8) Ae)))) (Aa 11))) (full [.sh Sc, .sh Bo, .sh (.int z), .sh (.int (h : Int)), .sh (.bool fl), .sh S, .sh KP, .sh (.list (ks.map PyData.int)), .sh (.int c), .sh (.int key), .sh (.list v), .sh (.list es)]) = some false := by
        show Option.bind (Option.bind (Fp [KP, .int key, .int c]) _) _ = _
        rw [hk, Cq]
        show Option.bind (Bu (.list es) (.list es)) _ = _
        rw [hself]
        rfl
      unfold Ft
      rw [p0, Cq]
      show Option.bind (Option.bind (Option.map PyData.list (Lr [KP])) _) _ = _
      rw [hsh]
      show Option.bind (Bu (.list v) (.list v)) _ = _
      rw [hne]
      rfl
  by_cases hk : key ∉ ks
  · by_cases hg : c % 4 > 1
    · exact go _ (htake key c hk (by omega)) (by rw [decide_eq_true hg, decide_eq_false (show ¬ c % 4 < 2 by omega)]) (decide_eq_true hk) (by rw [decide_eq_true hg]; rfl)
    · cases hf : fl with
      | true =>
        rw [← hf]
        exact go _ (MJ key c hf hk (by omega)) (by rw [decide_eq_false hg, decide_eq_true (show c % 4 < 2 by omega)]) (decide_eq_true hk) (by rw [hf]; simp)
      | false =>
        rw [← hf]
        rw [decide_eq_false hg, show (false || fl) = false by rw [hf]; rfl, Bool.and_false] at tst
        refine ⟨.sh (.int key), s10, s11, ?_⟩
        unfold MK
        exact Bp e0 (Bp e1 ((K1 tst).trans rfl))
  · rw [decide_eq_false hk, Bool.false_and] at tst
    refine ⟨.sh (.int key), s10, s11, ?_⟩
    unfold MK
    exact Bp e0 (Bp e1 ((K1 tst).trans rfl))
theorem holds (ns : List Int) (hns : ns.length ≤ 63) : Qa [.list (ns.map PyData.int)] = some (.bool true) := by
  obtain ⟨c0, hc0⟩ := nO ns (k := 0) (by decide)
  obtain ⟨c1, hc1⟩ := nO ns (k := 1) (by decide)
  obtain ⟨z, hz, z0⟩ := Qs c1
  obtain ⟨t', w', st', hb0, bd0⟩ := AFS c0
  have hw1 := bd0.w1
  have ht0 := bd0.t0
  have hs1 := bd0.s1
  obtain ⟨tt, rfl⟩ : ∃ t : Nat, t' = (t : Int) := ⟨t'.toNat, by omega⟩
  obtain ⟨w, rfl⟩ : ∃ w : Nat, w' = (w : Int) := ⟨w'.toNat, by omega⟩
  obtain ⟨st, rfl⟩ : ∃ st : Nat, st' = (st : Int) := ⟨st'.toNat, by omega⟩
  obtain ⟨t, bd, t2, s3⟩ := ABn (Sc := .list (ns.map PyData.int)) (z := z) bd0
  have hB0 : Av (Az t w st) (.int 0) = some (.int (t : Int)) := rfl
  obtain ⟨h, hht, s4⟩ := AAq (Sc := .list (ns.map PyData.int)) (z := z) hB0 t2
  obtain ⟨fl, hfl, s5⟩ := AAg (Sc := .list (ns.map PyData.int)) (z := z) (h := h) hB0
  have t4 : t ≤ 4 := by omega
  have w1 : 1 ≤ w := by omega
  have w20 : w ≤ 20 := by have := bd.hi; omega
  have Fw : st ≤ 20 := by
    have h1 := bd.lo
    have h3 : (st : Int) * 2 ≤ (st : Int) * ((t : Int) + 2) := Int.mul_le_mul_of_nonneg_left (by omega) (by omega)
    omega
  have hN := Oi (k := t) (w := w) t4 w1 w20
  have hH := Oi (k := h) (w := w) (by omega) w1 w20
  have hcap := AEW (t := t) (w := w) (st := st) (h := h) (by omega)
  rw [Zi] at hcap
  obtain ⟨r2, rw', rh, rt⟩ := room bd hht
  have hpc : (2 : Int) ^ h * ((w : Int) - (h : Int) * (st : Int)) = ((2 ^ h : Nat) : Int) * ((w : Int) - (h : Int) * (st : Int)) := by rw [Int.natCast_pow]; rfl
  have hcp : 0 ≤ ((2 ^ h : Nat) : Int) * ((w : Int) - (h : Int) * (st : Int)) := Int.mul_nonneg (Int.natCast_nonneg _) (by omega)
  have hcw : ((2 ^ h : Nat) : Int) * ((w : Int) - (h : Int) * (st : Int)) ≤ ((2 ^ h * w : Nat) : Int) := by
    push_cast
    exact Int.mul_le_mul_of_nonneg_left rw' (by have : (0 : Int) < 2 ^ h := Int.pow_pos (by decide); omega)
  generalize hCC : ((2 ^ h : Nat) : Int) * ((w : Int) - (h : Int) * (st : Int)) = cap at *
  have m3 := FW (z / 18) (b := 3) (by decide)
  obtain ⟨many, Gj⟩ : ∃ many : Int, many = cap - (if fl = true then 0 else 1) * (1 + z / 18 % 3) := ⟨_, rfl⟩
  have hm1 : many ≤ cap := by
    cases fl with
    | true => rw [if_pos rfl] at Gj; omega
    | false => rw [if_neg Bool.false_ne_true] at Gj; omega
  have hm2 : fl = true → many = cap := fun e => by rw [e, if_pos rfl] at Gj; omega
  obtain ⟨ts, zQ, rts, lts, nts⟩ := AAn (hh := h) z many bd (by omega)
  have hkn : ((keysOf ts).length : Int) ≤ cap := by omega
  have hkl : (keysOf ts).length < 1000 := by omega
  have ma := FW (z / 7) (b := 2) (by decide)
  obtain ⟨a, hae⟩ := Int.eq_ofNat_of_zero_le ma.1
  have ha2 : a < 2 := by omega
  have hpow : 2 ^ h * w ≤ 2 ^ t * w := Nat.mul_le_mul_right w (Nat.pow_le_pow_right (by decide) hht)
  obtain ⟨A, B, yJ, lA, lB, htake⟩ := AFG (h := h) (a := a) z ts bd ha2 (by omega)
  have dd : Ej [A, B, [some ((a : Int), (h : Int))]] (2 ^ t * w) a h A B := ⟨rfl, lA, lB, ha2⟩
  have aY : Bx w [A, B, [some ((a : Int), (h : Int))]] a h = ts := by
    unfold Bx
    rw [← lts]
    exact htake
  have uL := ABq (q := 0) bd dd hht aY rts ⟨rfl, .inl rfl⟩ (by rw [hpc]; exact hkn)
  obtain ⟨ev, ov, hmk⟩ := AFR bd dd hht uL
  obtain ⟨A', B', d', hup⟩ := rE dd hht
  rw [aY, gF rts] at hup
  obtain ⟨v, hsh, hne⟩ := AKT (e := ev) (o := ov) bd d' hht t4 w20 w1
  have MJ : ∀ key c : Int, fl = true → key ∉ keysOf ts → (c % 4 = 0 ∨ c % 4 = 1) → Fp [Cw (Az t w st) (BK (HX w [A, B, [some ((a : Int), (h : Int))]] a h)) ev ov, .int key, .int c] = some (.list [.bool true, .bool false, .bool false, .bool true]) := by
    intro key c hf hk hc
    have ht := hfl hf
    refine AAy (JR (by decide +kernel)) hc fun most => AHQ ?_
    subst ht
    refine ACT d' t4 ?_
    rw [hup]
    exact AJl (t := (h : Int)) (by omega) t4 Fw hk (by rw [hpc, nts, hm2 hf]; omega)
  have htk : ∀ key c : Int, key ∉ keysOf ts → (c % 4 = 2 ∨ c % 4 = 3) → Fp [Cw (Az t w st) (BK (HX w [A, B, [some ((a : Int), (h : Int))]] a h)) ev ov, .int key, .int c] = some (.list [.bool false, .bool true, .bool false, .bool true]) := by
    intro key c hk hc
    refine ABH (JR (by decide +kernel)) hc fun most => AGK ?_
    refine AHh d' (by omega) ?_
    rw [hup]
    exact AJ1 hk
  obtain ⟨cs, hcs, hcl⟩ := AHa ns (some 2) (some 32)
  have hq1 : 1 + cs.length < 16777216 := by omega
  have Qv : M5 [Az t w st, .int (h : Int), .int z, .int many] = some (ts.map encD) := zQ
  have Uh : Mq [Az t w st, .int (h : Int)] = some (.int cap) := hcap
  have Qp : K7 [Az t w st, .int (h : Int), .int (a : Int), encL ts, .int z] = some [encL A, encL B, encL [some ((a : Int), (h : Int))]] := yJ
  have hek : BK [A, B, [some ((a : Int), (h : Int))]] = .list [encL A, encL B, encL [some ((a : Int), (h : Int))]] := rfl
  rw [hek] at hmk
  generalize hKP : Cw (Az t w st) (BK (HX w [A, B, [some ((a : Int), (h : Int))]] a h)) ev ov = KP at *
  have Sv : PN [.int c0] = some (Az tt w st) := hb0
  clear zQ hcap yJ hup uL dd d' aY htake hKP hek hb0 bd bd0 rts lA lB
  have eL : encL ts = .list (ts.map encD) := rfl
  have hky := AGO ts (by omega) (fi := DX (Aa 5)) (ρ := masked [.sh (.list (ns.map PyData.int)), .sh (Az t w st), .sh (.int z), .sh (.int (h : Int)), .sh (.bool fl), .sh (.list (ts.map encD)), .sh KP, .no, .no, .no, .no, .no]) rfl
  rw [eL] at Qp
  obtain ⟨zs, hzs, hzl, hz0⟩ := AIp (0 :: cs) (by simp; omega) (fi := DX (Aw (GF (Aw (Bm (Ab (Ad (.int 0)) Ae))) (Aw (Gz (Aa 0) (Fj (Ad (.int 2))) (Fj (Ad (.int 32)))))))) (ρ := [some (.list (ns.map PyData.int)), some (Az t w st), some (.int z), some (.int (h : Int)), some (.bool fl), some (.list (ts.map encD)), some KP, some (.list ((keysOf ts).map PyData.int)), none, none, none, none]) (by
    clear MJ htk hsh hne hmk hky s3 s4 s5 Qv Uh Qp Sv hc0 hc1 hz
    generalize Az t w st = Bo at *
    generalize ts.map encD = TD at *
    generalize (keysOf ts).map PyData.int = KS at *
    walk_at "pu")
  have loop := W2 (bs := J3 8) (F := MK) PyData.int (fun (_ : Unit) ρ => ∃ s8 s9 s10 s11 : Sl, ρ = [.sh (.list (ns.map PyData.int)), .sh (Az t w st), .sh (.int z), .sh (.int (h : Int)), .sh (.bool fl), .sh (.list (ts.map encD)), .sh KP, .sh (.list ((keysOf ts).map PyData.int)), s8, s9, s10, s11]) (fun _ _ => ()) zs ?_ ()
    [.sh (.list (ns.map PyData.int)), .sh (Az t w st), .sh (.int z), .sh (.int (h : Int)), .sh (.bool fl), .sh (.list (ts.map encD)), .sh KP, .sh (.list ((keysOf ts).map PyData.int)), .no, .no, .no, .no] ⟨_, _, _, _, rfl⟩
  · obtain ⟨ρ', hf, s8, s9, s10, s11, rfl⟩ := loop
    obtain ⟨m, hm⟩ : ∃ m, VJ (keysOf ts ++ [0]) = some m := by
      cases e : keysOf ts with
      | nil => exact ⟨_, rfl⟩
      | cons x r => exact ⟨_, rfl⟩
    have hmn : m - 1 ∉ keysOf ts := fun hc => by
      have := (mD hm).2 (m - 1) (Dn hc)
      omega
    have Vw := htk (m - 1) 2 hmn (.inl rfl)
    have Pb : (keysOf ts).map PyData.int ++ [.int 0] = (keysOf ts ++ [0]).map PyData.int := by rw [List.map_append]; rfl
    have hgm : YL [.list ((keysOf ts).map PyData.int ++ [.int 0])] = some (.int m) := by
      rw [Pb]
      show (JV _).bind _ = _
      rw [L2.Vk, Cq, hm]
      rfl
    have hqe : Bj (.list [.bool false, .bool true, .bool false, .bool true]) (.list [.bool false, .bool true, .bool false, .bool true]) = some (.bool true) := by
      unfold Bj
      rw [if_pos ⟨by decide +kernel, by decide +kernel⟩]
      rfl
    have hKl : ((keysOf ts).map PyData.int).length + 1 < 16777216 := by rw [List.length_map]; omega
    clear MJ htk hsh hne Pb hm hmn nts hkn lts
    refine Cv (o := .rt (.bool true)) rfl ?_ rfl
    unfold VG
    generalize hPC : CT (DX (Aw (GF (Aw (Bm (Ab (Ad (.int 0)) Ae))) (Aw (Gz (Aa 0) (Fj (Ad (.int 2))) (Fj (Ad (.int 32)))))))) (Ca 0) Cu (Ai J5 (Ab (Aa 0) Ae)) 1 [] = PC at *
    refine Bp (ρ' := [.sh (.list (ns.map PyData.int)), .sh (Az tt w st), .no, .no, .no, .no, .no, .no, .no, .no, .no, .no]) (by
      generalize Az tt w st = Bo at *
      clear hf hzs hky Qp Qv Uh hz hc1 hmk s3 s4 s5 Vw hgm
      walk_at "pu") ?_
    refine Bp (ρ' := [.sh (.list (ns.map PyData.int)), .sh (Az tt w st), .sh (.int z), .no, .no, .no, .no, .no, .no, .no, .no, .no]) (by
      generalize Az tt w st = Bo at *
      clear hf hzs hky Qp Qv Uh hc0 hmk s3 s4 s5 Vw hgm Sv
      walk_at "pu") ?_
    refine Bp s3 (Bp s4 (Bp s5 ?_))
    refine Bp (ρ' := [.sh (.list (ns.map PyData.int)), .sh (Az t w st), .sh (.int z), .sh (.int (h : Int)), .sh (.bool fl), .sh (.list (ts.map encD)), .no, .no, .no, .no, .no, .no]) (by
      have hgi : Kd [.bool (!fl)] = some (.int (if fl = true then 0 else 1)) := by cases fl <;> rfl
      have hm3 : -18446744073709551616 < 1 + z / 18 % 3 ∧ 1 + z / 18 % 3 < 18446744073709551616 := ⟨by omega, by omega⟩
      have hnot : Qw (Aa 4) [some (.list (ns.map PyData.int)), some (Az t w st), some (.int z), some (.int (h : Int)), some (.bool fl), none, none, none, none, none, none, none] = some (.bool (!fl)) := rfl
      clear hf hzs hky Qp hc0 hc1 hz hmk s3 s4 s5 Vw hgm Sv
      rw [Gj] at Qv
      generalize Az t w st = Bo at *
      generalize (if fl = true then (0 : Int) else 1) = b at *
      generalize PyData.list (ns.map PyData.int) = Sc at *
      generalize ts.map encD = TD at *
      clear Gj
      walk_at "pu") ?_
    refine Bp (ρ' := [.sh (.list (ns.map PyData.int)), .sh (Az t w st), .sh (.int z), .sh (.int (h : Int)), .sh (.bool fl), .sh (.list (ts.map encD)), .sh KP, .no, .no, .no, .no, .no]) (by
      clear hf hzs hky hc0 hc1 hz s3 s4 s5 Vw hgm Sv Qv Uh
      have hmod : BV (.int (z / 7)) (.int 2) = some (.int (a : Int)) := by rw [La, if_pos (by decide), hae]
      have e7 : CJ (.int z) (.int 7) = some (.int (z / 7)) := by rw [VD, if_pos (by decide)]
      generalize encL [some ((a : Int), (h : Int))] = SG at *
      generalize encL A = LA at *
      generalize encL B = LB at *
      generalize Az t w st = Bo at *
      generalize ts.map encD = TD at *
      have ga : (Ab (Aa 1) (Ab (Aw (BX K7 (Ab (Aa 1) (Ab (Aa 3) (Ab (Ac BV (Ac CJ (Aa 2) (Ad (.int 7))) (Ad (.int 2))) (Ab (Aa 5) (Ab (Aa 2) Ae))))))) Ae)) (masked [.sh (.list (ns.map PyData.int)), .sh Bo, .sh (.int z), .sh (.int (h : Int)), .sh (.bool fl), .sh (.list TD), .no, .no, .no, .no, .no, .no]) = some [Bo, .list [LA, LB, SG]] := by
        generalize PyData.list (ns.map PyData.int) = Sc at *
        clear hmk hae
        walk_at "pu"
      show Option.bind (Option.bind (Option.bind _ (Mx Kp)) _) _ = _
      rw [ga]
      show Option.bind (Option.bind (Mx Kp [Bo, .list [LA, LB, SG]]) _) _ = _
      rw [hmk]
      rfl) ?_
    refine Bp (ACJ 7 hky) ?_
    refine Bp ((Mm (items := zs.map PyData.int) ?_).trans hf) ?_
    · show Option.bind (Option.map PyData.list (PC [some (.list (ns.map PyData.int)), some (Az t w st), some (.int z), some (.int (h : Int)), some (.bool fl), some (.list (ts.map encD)), some KP, some (.list ((keysOf ts).map PyData.int)), none, none, none, none])) _ = _
      rw [hzs]
      rfl
    · clear hf hzs hky hc0 hc1 hz s3 s4 s5 Sv Qv Uh Qp hmk
      show Bh _ [.sh (.list (ns.map PyData.int)), .sh (Az t w st), .sh (.int z), .sh (.int (h : Int)), .sh (.bool fl), .sh (.list (ts.map encD)), .sh KP, .sh (.list ((keysOf ts).map PyData.int)), s8, s9, s10, s11] = _
      generalize PyData.list (ns.map PyData.int) = Sc at *
      generalize (keysOf ts).map PyData.int = KS at *
      generalize Az t w st = Bo at *
      generalize ts.map encD = TD at *
      walk_at "pu"
  · rintro _ ρ c hc ⟨s8, s9, s10, s11, rfl⟩
    obtain ⟨s9', W0, ZF, hl⟩ := body (Sc := .list (ns.map PyData.int)) (Bo := Az t w st) (S := .list (ts.map encD)) (z := z) (c := c) (h := h) (s9 := s9) (s10 := s10) (s11 := s11) hkl hsh hne MJ htk
    exact ⟨_, _, rfl, hl, _, _, _, _, rfl⟩
end S29
open PySem PySem.W PyProof.Rows
theorem PySem.W.Fast.tw17240852201155171335 : True := trivial
theorem PySem.W.Fast.tw12923326173649284003 : True := trivial
theorem PySem.W.Fast.tw14297291069746324178 : True := trivial
theorem PySem.W.Fast.tw8934848774201825967 : True := trivial
theorem PySem.W.Fast.tw3646029349825798033 : True := trivial
theorem PySem.W.Fast.tw15461427105921115468 : True := trivial
theorem PySem.W.Fast.tw485549822622692250 : True := trivial
theorem PySem.W.Fast.tw3074382920525055018 : True := trivial
theorem PySem.W.Fast.tw15744579090417071722 : True := trivial
theorem PySem.W.Fast.tw9948887790994593372 : True := trivial
theorem PySem.W.Fast.tw3058803603442846283 : True := trivial
theorem PySem.W.Fast.tw11998210551909342900 : True := trivial
theorem PySem.W.Fast.tw18076109516194168437 : True := trivial
set_option maxRecDepth 100000 in
set_option maxHeartbeats 0 in
theorem PySem.Challenge.cw_gapshelf_k29_deeds_refused_holds : PySem.Challenge.rw_gapshelf_k29_deeds_refused.Holds := by
  w_on; o_law; k_head; (case hw => w_witness2)
  k_fill
  refine L2.AHM (l := PySem.Challenge.rw_gapshelf_k29_deeds_refused) (n := 63) (k := 9) (x := "script") (CX := L2.GZ) (sp := L2.WD) rfl (by decide) rfl ⟨rfl, by decide, by decide⟩ (fun w h Y => PySem.W.kIn_of Y) ?F ?S ?C
  case S => exact fun K H a ns hl hO hS => ⟨a, ns, rfl, hS, hl, fun _ => rfl⟩
  case C => exact fun _ _ _ _ z => z
  case F =>
    intro w mg fa h KX G hmg
    refine' S29.all_mk S29.holds KX G hmg ?o0 ?o1 ?o2 ?o3 ?o4 ?o5 ?o6 ?o7 ?o8 ?o9 ?oa ?ib ?ii ?is ?il ?it ?Jp ?Q6 ?Rj ?QM ?Jo ?Q5 ?Qh ?a0 ?a1 ?a2 ?a3 ?a4 ?a5 ?a6 ?a7 ?a8 ?a9 ?a10 ?a11 ?a12 ?a13 ?a14 ?a15 ?a16 ?a17 ?a18 ?a19 ?a20 ?a21 ?a22 ?a23 ?a24 ?a25 ?a26 ?a27 ?a28 ?a29 ?a30 ?a31 ?a32 ?a33 ?a34 ?a35 ?a36 ?a37 ?a38 ?a39 ?a40 ?a41 ?a42 ?a43 ?a44 ?a45 ?a46 ?a47 ?a48 ?a49 ?a50 ?a51 ?a52 ?a53 ?a54 ?a55 ?a56 ?a57 ?a58 ?a59 ?bA ?jN ?ZS ?jC ?Zk ?kI ?cL ?fX ?cU ?Z7 ?Zf ?iT ?Ze ?aX ?jU ?Z0 ?bJ ?q0 ?q1 ?q2 ?t1 ?t2 ?t3 ?t4 ?x0 ?x1 ?x2 ?ga1 ?gt1 ?cl1 ?mB1 ?mO1 ?s1 ?ga2 ?gt2 ?cl2 ?mB2 ?mO2 ?s2 ?i1 ?i2 ?i3 ?i4 ?j1 ?j2 ?j3 ?j4
    case o0 | o1 | o2 | o3 | o4 | o5 | o6 | o7 | o8 | o9 | oa => k_is
    case ib | ii | is | il | it => kit_is
    case Jp | Q6 | Rj | QM | Jo | Q5 | Qh => k_is
    case a0 | a1 | a2 | a3 | a4 | a5 | a6 | a7 | a8 | a9 | a10 | a11 | a12 | a13 | a14 | a15 | a16 | a17 | a18 | a19 | a20 | a21 | a22 | a23 | a24 | a25 | a26 | a27 | a28 | a29 | a30 | a31 | a32 | a33 | a34 | a35 | a36 => refine' L2.fnAt ?a ?l ?c ?k; case a | l | c | k => k_is
    case a37 | a38 | a39 => refine' L2.lL ?a ?n ?l ?c ?k; case a | n | l | c | k => k_is
    case a40 | a41 => refine' L2.ACS ?a ?n ?l ?c ?k ?t; case a | n | l | c | k | t => k_is
    case a42 | a43 | a44 | a45 | a46 | a47 => refine' L2.lL ?a ?n ?l ?c ?k; case a | n | l | c | k => k_is
    case a48 | a49 | a50 | a51 | a52 | a53 | a54 | a55 | a56 | a57 | a58 | a59 => refine' L2.fnAt ?a ?l ?c ?k; case a | l | c | k => k_is
    case bA | jN | ZS | jC | Zk | kI | cL | fX | cU | Z7 | Zf | iT | Ze | aX | jU | Z0 | bJ | q0 | q1 | q2 | t1 | t2 | t3 | t4 => k_is
    case x0 | x1 | x2 => k_exc
    case ga1 | gt1 | cl1 | mB1 | mO1 | s1 | ga2 | gt2 | cl2 | mB2 | mO2 | s2 => k_is
    case i1 | i2 | i3 | i4 | j1 | j2 | j3 | j4 => kit_is
#print axioms PySem.Challenge.cw_gapshelf_k29_deeds_refused_holds
