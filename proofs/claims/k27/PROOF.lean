import PyProof.Rows.All
import Wide.All
import OpenK.AllK
import Wide.FinOn
import Lean
import PyProof.EqAt
import PyProof.EqKinds
import PyProof.TupleCall
import KE.KIntText
import PyProof.StrOps2
import PySem.Challenge.RW_gapshelf_k27_no_bounds_no_disk
theorem BK {α : Type _} {y a : α} {l : List α} (h : a ∈ l) : a ∈ y :: l := List.mem_cons_of_mem y h
theorem Bj {α : Type _} {a : α} {l m : List α} (h : a ∈ m) : a ∈ l ++ m := List.mem_append_right l h
theorem Cy {α : Type _} {a : α} {l m : List α} (h : a ∈ l) : a ∈ l ++ m := List.mem_append_left m h
theorem Bp {α : Type _} {a : α} {l : List α} : a ∈ a :: l := List.mem_cons_self
open PySem.W (Frag nsIn keepIn fnOf codeIn findIn mroIn kitOne mg_of mg_none_of kia_one excIn makesIn)
local macro_rules | `(tactic| walk_at "sc") => `(tactic| exact ⟨rfl, rfl, rfl, by decide +kernel, rfl, by decide +kernel, by decide +kernel⟩)
set_option Elab.async false
set_option linter.all false
set_option maxRecDepth 100000
namespace L2
open PySem PySem.Spec PyProof.Rows
abbrev Key := Sum Int Str
def sX : Key → Value → Bool
  | .inl k, v => Value.isInt k v
  | .inr x, v => Value.isStrOf x v
def AAa (w : World) : Key → Int
  | .inl k => hashInt k
  | .inr x => hashStr w x
theorem Kg : ∀ {k : Key} {v : Value}, sX k v = true → (∃ i t, k = Sum.inl i ∧ v = Value.int i t) ∨ (∃ x t, k = Sum.inr x ∧ v = Value.str x t)
  | .inl i, v, h => by
    obtain ⟨t, e⟩ := Value.isInt_shape (k := i) (v := v) h
    exact .inl ⟨i, t, rfl, e⟩
  | .inr x, v, h => by
    obtain ⟨t, e⟩ := Value.isStrOf_shape (x := x) (v := v) h
    exact .inr ⟨x, t, rfl, e⟩
theorem AJo (a b : Int) : decide ((Sum.inl a : Key) = Sum.inl b) = (a == b) := by
  by_cases e : a = b
  · subst e; simp
  · have h : ¬ (Sum.inl a : Key) = Sum.inl b := fun q => e (Sum.inl.inj q)
    rw [decide_eq_false h]
    exact (beq_eq_false_iff_ne.mpr e).symm
theorem AHS (a b : Str) : decide ((Sum.inr a : Key) = Sum.inr b) = decide (a = b) := by
  by_cases e : a = b
  · subst e; simp
  · have h : ¬ (Sum.inr a : Key) = Sum.inr b := fun q => e (Sum.inr.inj q)
    rw [decide_eq_false h, decide_eq_false e]
theorem ANX (a : Int) (b : Str) : decide ((Sum.inl a : Key) = Sum.inr b) = false := decide_eq_false (fun q => nomatch q)
theorem AOa (a : Str) (b : Int) : decide ((Sum.inr a : Key) = Sum.inl b) = false := decide_eq_false (fun q => nomatch q)
def pF (prog : Program) (w : World) : PySem.KeyKind prog w Key where
  is := sX
  hash := AAa w
  inj := fun v a b ha hb => by
    rcases Kg ha with ⟨i, t, rfl, rfl⟩ | ⟨x, t, rfl, rfl⟩
    · rcases Kg hb with ⟨j, u, rfl, e⟩ | ⟨y, u, rfl, e⟩
      · injection e with e1 _; rw [e1]
      · exact nomatch e
    · rcases Kg hb with ⟨j, u, rfl, e⟩ | ⟨y, u, rfl, e⟩
      · exact nomatch e
      · injection e with e1 _; rw [e1]
  byValue := fun k v h => by
    rcases Kg h with ⟨i, t, rfl, rfl⟩ | ⟨x, t, rfl, rfl⟩ <;> rfl
  pyHash := fun hv h => by
    rcases Kg hv with ⟨i, t, rfl, rfl⟩ | ⟨x, t, rfl, rfl⟩
    · exact wpAny_pyHash_int h
    · exact wpAny_pyHash_str h
  eqBool := fun hu hv h => by
    rcases Kg hu with ⟨i, t, rfl, rfl⟩ | ⟨x, t, rfl, rfl⟩
    · rcases Kg hv with ⟨j, u, rfl, rfl⟩ | ⟨y, u, rfl, rfl⟩
      · rw [AJo] at h; exact wpAny_eqBool_int h
      · rw [ANX] at h; exact SeqAt.EqAt.int_str i t y u _ _ _ _ h
    · rcases Kg hv with ⟨j, u, rfl, rfl⟩ | ⟨y, u, rfl, rfl⟩
      · rw [AOa] at h; exact SeqAt.EqAt.str_int x t j u _ _ _ _ h
      · rw [AHS] at h; exact wpAny_eqBool_str h
  «strs» := fun k x t v h => by
    rcases Kg h with ⟨i, u, rfl, e⟩ | ⟨y, u, rfl, e⟩
    · exact nomatch e
    · injection e with e1 _
      subst e1
      cases v <;> rfl
end L2
namespace L2
open PySem PySem.Spec PyProof.Rows
inductive V where
  | non | bl (b : Bool) | int (i : Int) | str (x : Str) | byt (b : Array UInt8) | flt (b : UInt64) | ref (a : Addr) | ty (n : String)
  deriving DecidableEq
def RelV : V → Value → Prop
  | .non, u => u = Value.none
  | .bl b, u => u = Value.bool b
  | .int i, u => ∃ t, u = Value.int i t
  | .str x, u => ∃ t, u = Value.str x t
  | .byt b, u => ∃ t, u = Value.bytes b t
  | .flt b, u => ∃ t, u = Value.float b t
  | .ref a, u => u = Value.ref a
  | .ty n, u => u = Value.type n
abbrev Vals : List V → List Value → Prop := Paired RelV
theorem Vals.length {xs : List V} {us : List Value} (r : Vals xs us) : xs.length = us.length := Paired.length r
theorem Vals.get : ∀ {xs : List V} {us : List Value} {i : Nat} {x : V}, Vals xs us → xs[i]? = some x → ∃ u, us[i]? = some u ∧ RelV x u
  | _, _, _, _, .nil, e => by simp at e
  | _, _, 0, _, .cons r _, e => by simp at e; subst e; exact ⟨_, rfl, r⟩
  | _, _, i + 1, x, .cons _ t, e => by
    obtain ⟨u, h1, h2⟩ := Vals.get (i := i) (x := x) t (by simpa using e)
    exact ⟨u, by simpa using h1, h2⟩
theorem Vals.set {x : V} {u : Value} (r : RelV x u) : ∀ {xs : List V} {us : List Value} (i : Nat), Vals xs us → Vals (xs.set i x) (us.set i u)
  | _, _, _, .nil => .nil
  | _, _, 0, .cons _ t => .cons r t
  | _, _, i + 1, .cons q t => .cons q (Vals.set r i t)
theorem Vals.append : ∀ {xs ys : List V} {us ws : List Value}, Vals xs us → Vals ys ws → Vals (xs ++ ys) (us ++ ws)
  | _, _, _, _, .nil, s => s
  | _, _, _, _, .cons r t, s => .cons r (Vals.append t s)
theorem Vals.take : ∀ {xs : List V} {us : List Value} (n : Nat), Vals xs us → Vals (xs.take n) (us.take n)
  | _, _, 0, _ => .nil
  | _, _, _ + 1, .nil => .nil
  | _, _, n + 1, .cons r t => .cons r (Vals.take n t)
theorem Vals.drop : ∀ {xs : List V} {us : List Value} (n : Nat), Vals xs us → Vals (xs.drop n) (us.drop n)
  | _, _, 0, r => r
  | _, _, _ + 1, .nil => .nil
  | _, _, n + 1, .cons _ t => Vals.drop n t
def Jw : Option V → Option Value → Prop
  | some v, some u => RelV v u
  | none, none => True
  | _, _ => False
def KV {κ : Type} : List (κ × V) → List (κ × Value) → Prop := Paired fun (p : κ × V) (q : κ × Value) => p.1 = q.1 ∧ RelV p.2 q.2
def kV : Key → V
  | .inl i => .int i
  | .inr x => .str x
inductive HO where
  | lst (xs : List V)
  | tup (xs : List V)
  | dK (kvs : List (Key × V)) | dT (kvs : List (List Key × V))
  | set (S : Int → Bool) (n : Nat)
  | ins (C dx : Addr) (fs : List (Str × V))
  | own (x : Addr)
  | xd (fs : List (Str × V))
  | met (f x : Addr)
  | rng (lo hi : Int)
  | frz (o : Obj) (u : HO)
  | tbl (ps : Array Value)
  | ext (φ : Heap → Prop)
abbrev Hp := Addr → Option HO
def upd (H : Hp) (a : Addr) (o : HO) : Hp := fun b => if b = a then some o else H b
theorem Dg {H : Hp} {a : Addr} {o : HO} : upd H a o a = some o := by unfold upd; rw [if_pos rfl]
theorem Ba {H : Hp} {a b : Addr} {o : HO} (h : b ≠ a) : upd H a o b = H b := by unfold upd; rw [if_neg h]
theorem De {H : Hp} {a b : Addr} {o : HO} (h : H a = some o) (h' : H b = none) : a ≠ b := by
  intro e; subst e; rw [h] at h'; cases h'
section
variable (P : Program) (w : World)
def Em (H : Hp) (h : Heap) (a : Addr) : HO → Prop
  | .lst xs => xs.length ≤ sizeLine ∧ ∃ (its : List Value) (n : Nat), Vals xs its ∧ h.get? a = some { cls := .type "list", data := .seq its.toArray n }
  | .tup xs => xs.length ≤ sizeLine ∧ ∃ its : List Value, Vals xs its ∧ IsTup h a its.toArray
  | .dK kvs => kvs.length ≤ sizeLine ∧ (a == sysModules) = false ∧ ∃ vs, KV kvs vs ∧ h.DictOf (pF P w) a vs
  | .dT kvs => kvs.length ≤ sizeLine ∧ (a == sysModules) = false ∧ ∃ xs : List (List Key × Addr × Value),
      Paired (fun (p : List Key × V) (q : List Key × Addr × Value) => p.1 = q.1 ∧ H q.2.1 = some (.tup (p.1.map kV)) ∧ RelV p.2 q.2.2) kvs xs ∧
      ∃ o es ep, h.get? a = some o ∧ o.ExactDict ∧ o.data = .dict es ep ∧ es.toList = xs.map (entryOfKey (tupleKind (pF P w))) ∧ (xs.map (·.1)).Nodup
  | .set S n => h.SetOf (intKind P w) a S n
  | .ins C dx fs => H dx = some (.own a) ∧ fs.length ≤ 1000 ∧ dx ≠ a ∧ h.get? a = some (PySem.W.instObj C dx) ∧
      ∃ mA, h.Ns1 dx mA ∧ (∀ f, Jw (fs.lookup f) (mA f)) ∧ PySem.Within mA (fs.map (·.1))
  | .own _ => ∃ o, h.get? a = some o
  | .xd fs => ∃ mA, h.Ns1 a mA ∧ ∀ f, Jw (fs.lookup f) (mA f)
  | .rng lo hi => ∃ t u v, h.get? a = some { cls := .type "range", data := .fields #[.int lo t, .int hi u, .int 1 v] }
  | .frz o u => h.get? a = some o ∧ Em H h a u
  | .tbl ps => h.get? a = some { cls := .none, data := .fields ps }
  | .met f x => h.get? a = some (PySem.W.methodObj (.ref f) (.ref x))
  | .ext φ => φ h ∧ (∃ o, h.get? a = some o) ∧ ∀ h1 h2 : Heap, φ h1 → (∀ o, h1.get? a = some o → h2.get? a = some o) → φ h2
def Ec (H : Hp) (h : Heap) : Prop := ∀ a o, H a = some o → Em P w H h a o
end
section
variable {P : Program} {w : World} {H H' : Hp} {h h' : Heap} {a : Addr} {o : HO}
theorem Em.lt (x : Em P w H h a o) : a < h.objs.size := by
  cases o with
  | lst xs => obtain ⟨_, _, _, _, e⟩ := x; exact Heap.lt_size e
  | tup xs => obtain ⟨_, _, _, p⟩ := x; exact p.lt
  | dK kvs => obtain ⟨_, _, _, _, o, _, _, e, _⟩ := x; exact Heap.lt_size e
  | dT kvs => obtain ⟨_, _, _, _, o, _, _, e, _⟩ := x; exact Heap.lt_size e
  | set S n => obtain ⟨o, _, _, _, e, _⟩ := x; exact Heap.lt_size e
  | ins C dx fs => obtain ⟨_, _, _, e, _⟩ := x; exact Heap.lt_size e
  | own y => obtain ⟨_, e⟩ := x; exact Heap.lt_size e
  | xd fs => obtain ⟨_, ⟨_, _, _, e, _⟩, _⟩ := x; exact Heap.lt_size e
  | rng lo hi => obtain ⟨_, _, _, e⟩ := x; exact Heap.lt_size e
  | frz ob u => obtain ⟨e, _⟩ := x; exact Heap.lt_size e
  | tbl ps => exact Heap.lt_size (show h.get? a = some _ from x)
  | met f y => exact Heap.lt_size (show h.get? a = some _ from x)
  | ext φ => obtain ⟨_, ⟨_, e⟩, _⟩ := x; exact Heap.lt_size e
theorem Paired.uT {α β : Type} {F G : α → β → Prop} : ∀ {l₁ : List α} {l₂ : List β}, Paired F l₁ l₂ → (∀ a b, F a b → G a b) → Paired G l₁ l₂
  | _, _, .nil, _ => .nil
  | _, _, .cons r t, f => .cons (f _ _ r) (Paired.uT t f)
theorem Em.Jk (x : Em P w H h a o) (k : ∀ b u, (b = a ∨ H b = some (.own a)) → h.get? b = some u → h'.get? b = some u) (ho : ∀ b, H b = some (.own a) → H' b = some (.own a)) (ht : ∀ b xs, H b = some (.tup xs) → H' b = some (.tup xs)) : Em P w H' h' a o := by
  induction o with
  | lst xs => obtain ⟨z, its, n, r, e⟩ := x; exact ⟨z, its, n, r, k _ _ (.inl rfl) e⟩
  | tup xs => obtain ⟨z, its, r, ob, e, c⟩ := x; exact ⟨z, its, r, ob, k _ _ (.inl rfl) e, c⟩
  | dK kvs => obtain ⟨z, y, vs, r, ob, es, ep, e, c⟩ := x; exact ⟨z, y, vs, r, ob, es, ep, k _ _ (.inl rfl) e, c⟩
  | dT kvs =>
    obtain ⟨z, y, xs, r, ob, es, ep, e, c⟩ := x
    exact ⟨z, y, xs, Paired.uT r fun p q z => ⟨z.1, ht _ _ z.2.1, z.2.2⟩, ob, es, ep, k _ _ (.inl rfl) e, c⟩
  | set S n => obtain ⟨ob, es, ep, t, e, c⟩ := x; exact ⟨ob, es, ep, t, k _ _ (.inl rfl) e, c⟩
  | ins C dx fs =>
    obtain ⟨d, z, ne, e, mA, ⟨od, es, ep, e2, c⟩, r⟩ := x
    exact ⟨ho _ d, z, ne, k _ _ (.inl rfl) e, mA, ⟨od, es, ep, k _ _ (.inr d) e2, c⟩, r⟩
  | own y => obtain ⟨ob, e⟩ := x; exact ⟨ob, k _ _ (.inl rfl) e⟩
  | xd fs => obtain ⟨mA, ⟨od, es, ep, e, c⟩, r⟩ := x; exact ⟨mA, ⟨od, es, ep, k _ _ (.inl rfl) e, c⟩, r⟩
  | rng lo hi => obtain ⟨t, u, v, e⟩ := x; exact ⟨t, u, v, k _ _ (.inl rfl) e⟩
  | frz ob u ih => obtain ⟨e, q⟩ := x; exact ⟨k _ _ (.inl rfl) e, ih q⟩
  | tbl ps =>
    have e : h.get? a = some { cls := .none, data := .fields ps } := x
    show h'.get? a = some { cls := .none, data := .fields ps }
    exact k a _ (.inl rfl) e
  | met f y =>
    have e : h.get? a = some (PySem.W.methodObj (.ref f) (.ref y)) := x
    show h'.get? a = some (PySem.W.methodObj (.ref f) (.ref y))
    exact k a _ (.inl rfl) e
  | ext φ => obtain ⟨p, ⟨o, e⟩, st⟩ := x; exact ⟨st _ _ p fun o q => k _ _ (.inl rfl) q, ⟨o, k _ _ (.inl rfl) e⟩, st⟩
theorem Ec.lt (x : Ec P w H h) (e : H a = some o) : a < h.objs.size := (x a o e).lt
theorem Ec.fresh (x : Ec P w H h) (e : h.objs.size ≤ a) : H a = none := by
  cases q : H a with
  | none => rfl
  | some u => exact absurd (Nat.lt_of_lt_of_le (x.lt q) e) (Nat.lt_irrefl _)
theorem Ec.kept (x : Ec P w H h) (k : ∀ b u, h.get? b = some u → h'.get? b = some u) : Ec P w H h' := fun a o e =>
  (x a o e).Jk (fun b u _ q => k b u q) (fun _ q => q) fun _ _ q => q
theorem Ec.laid (x : Ec P w H h) (k : ∀ b u, h.get? b = some u → h'.get? b = some u) (hp : h.objs.size ≤ a) (new : Em P w (upd H a o) h' a o) : Ec P w (upd H a o) h' := fun b u e => by
  have hn := x.fresh hp
  by_cases hb : b = a
  · subst hb; rw [Dg] at e; cases e; exact new
  · rw [Ba hb] at e
    exact (x b u e).Jk (fun c v _ q => k c v q) (fun c q => by rw [Ba (De q hn)]; exact q) fun c xs q => by rw [Ba (De q hn)]; exact q
end
def Rd (H : Hp) (a : Addr) (u : HO) : Prop := H a = some u ∨ ∃ o, H a = some (.frz o u)
theorem Rd.ok {P : Program} {w : World} {H : Hp} {h : Heap} {a : Addr} {u : HO} (r : Rd H a u) (x : Ec P w H h) : Em P w H h a u := by
  rcases r with r | ⟨o, r⟩
  · exact x a u r
  · obtain ⟨_, q⟩ := x a _ r
    exact q
def Xp : Option HO → Prop
  | some (.lst _) => True
  | some (.dK _) => True
  | some (.dT _) => True
  | some (.set _ _) => True
  | some (.ins _ _ _) => True
  | some (.ext _) => True
  | _ => False
section
variable {P : Program} {w : World} {H : Hp} {h h' : Heap} {x e : Addr} {o' : HO}
theorem Ec.write (ok : Ec P w H h) (mu : Xp (H x)) (he : e = x ∨ H e = some (.own x)) (k : ∀ b u, b ≠ e → h.get? b = some u → h'.get? b = some u) (heo : ∃ u, h'.get? e = some u) (new : Em P w (upd H x o') h' x o') : Ec P w (upd H x o') h' := fun b u q => by
  have nown : ∀ c y, H c = some (.own y) → c ≠ x := fun c y r z => by subst z; rw [r] at mu; exact mu
  have ntup : ∀ c xs, H c = some (.tup xs) → c ≠ x := fun c xs r z => by subst z; rw [r] at mu; exact mu
  by_cases hb : b = x
  · subst hb; rw [Dg] at q; cases q; exact new
  · rw [Ba hb] at q
    by_cases hbe : b = e
    · have q' : H b = some (.own x) := by
        rcases he with z | z
        · exact absurd (hbe.trans z) hb
        · rw [hbe]; exact z
      rw [q] at q'; cases q'
      obtain ⟨v, hv⟩ := heo
      exact ⟨v, by rw [hbe]; exact hv⟩
    · refine (ok b u q).Jk (fun c v hc r => k c v ?_ r) (fun c r => by rw [Ba (nown c b r)]; exact r) fun c xs r => by rw [Ba (ntup c xs r)]; exact r
      rcases hc with rfl | hc
      · exact hbe
      · rintro rfl
        rcases he with z | z
        · exact nown c b hc z
        · rw [hc] at z; cases z; exact hb rfl
end
structure Un (fs ex : List Addr) (H H' : Hp) (h h' : Heap) : Prop where
  keep : ∀ b o, h.get? b = some o → H b = none → b ∉ fs → b ∉ ex → h'.get? b = some o
  slot : ∀ b o, h.get? b = some o → H b = none → b ∈ fs → b ∉ ex → ∃ sl, h'.get? b = some { o with slots := sl }
  free : ∀ b o, h.get? b = some o → H b = none → b ∉ ex → H' b = none
  there : ∀ b o, h.get? b = some o → b ∉ ex → ∃ o', h'.get? b = some o'
  tups : ∀ b xs, H b = some (.tup xs) → H' b = some (.tup xs)
  frzs : ∀ b o u, H b = some (.frz o u) → H' b = some (.frz o u)
  tbls : ∀ b ps, H b = some (.tbl ps) → ∃ more, H' b = some (.tbl (ps ++ more))
section
variable {fs fs' ex ex' : List Addr} {H H1 H2 : Hp} {h h1 h2 h' : Heap} {a x e : Addr} {o : HO}
theorem Un.any (u : Un fs ex H H1 h h1) {b : Addr} {ob : Obj} (q : h.get? b = some ob) (n : H b = none) (hx : b ∉ ex) : ∃ sl, h1.get? b = some { ob with slots := sl } := by
  by_cases hb : b ∈ fs
  · exact u.slot b ob q n hb hx
  · exact ⟨ob.slots, u.keep b ob q n hb hx⟩
theorem Un.kept (k : ∀ b u, h.get? b = some u → h'.get? b = some u) : Un fs ex H H h h' :=
  ⟨fun b ob q _ _ _ => k b ob q, fun b ob q _ _ _ => ⟨ob.slots, k b ob q⟩, fun _ _ _ n _ => n, fun b ob q _ => ⟨ob, k b ob q⟩, fun _ _ q => q, fun _ _ _ q => q, fun _ ps q => ⟨#[], by rw [q]; simp⟩⟩
theorem Un.refl : Un fs ex H H h h := Un.kept fun _ _ q => q
theorem Un.laid (k : ∀ b u, h.get? b = some u → h'.get? b = some u) (hp : h.objs.size ≤ a) (hn : H a = none) : Un fs ex H (upd H a o) h h' where
  keep := fun b u q _ _ _ => k b u q
  slot := fun b u q _ _ _ => ⟨u.slots, k b u q⟩
  free := fun b u q n _ => by rw [Ba (Nat.ne_of_lt (Nat.lt_of_lt_of_le (Heap.lt_size q) hp))]; exact n
  there := fun b u q _ => ⟨u, k b u q⟩
  tups := fun b xs q => by rw [Ba (De q hn)]; exact q
  frzs := fun b u xs q => by rw [Ba (De q hn)]; exact q
  tbls := fun b ps q => ⟨#[], by rw [Ba (De q hn), q]; simp⟩
theorem Un.write (mu : Xp (H x)) (he : e = x ∨ H e = some (.own x)) (k : ∀ b u, b ≠ e → h.get? b = some u → h'.get? b = some u) (heo : ∃ u, h'.get? e = some u) : Un fs ex H (upd H x o) h h' := by
  have hx : ∀ b, H b = none → b ≠ x := fun b n z => by subst z; rw [n] at mu; exact mu
  have hb : ∀ b, H b = none → b ≠ e := fun b n z => by
    subst z
    rcases he with r | r
    · exact hx b n r
    · rw [n] at r; cases r
  have hm : ∀ b u, H b = some u → ¬ Xp (some u) → b ≠ x := fun b u q nm z => by subst z; rw [q] at mu; exact nm mu
  refine ⟨fun b u q n _ _ => k b u (hb b n) q, fun b u q n _ _ => ⟨u.slots, k b u (hb b n) q⟩, fun b u q n _ => by rw [Ba (hx b n)]; exact n, fun b u q _ => ?_,
    fun b xs q => by rw [Ba (hm b _ q fun z => z)]; exact q, fun b u xs q => by rw [Ba (hm b _ q fun z => z)]; exact q, fun b ps q => ⟨#[], by rw [Ba (hm b _ q fun z => z), q]; simp⟩⟩
  by_cases hbe : b = e
  · subst hbe; exact heo
  · exact ⟨u, k b u hbe q⟩
end
def Xd (h : Heap) (H : Hp) : List Addr := (List.range h.objs.size).filter fun a => (H a).isSome
def LC (h : Heap) (H : Hp) : Heap := PySem.W.hideAll h (Xd h H)
theorem ALX (h : Heap) (H : Hp) : (LC h H).objs.size = h.objs.size := PySem.W.hideAll_size _ _
theorem zR {h : Heap} {H : Hp} {b : Addr} {o : Obj} (e : h.get? b = some o) (n : H b = none) : (LC h H).get? b = some o :=
  PySem.W.hideAll_get _ e fun hm => by
    have q : (H b).isSome = true := (List.mem_filter.mp hm).2
    rw [n] at q; simp at q
theorem ADs {h : Heap} {H : Hp} {b : Addr} {o : Obj} (e : (LC h H).get? b = some o) : h.get? b = some o ∧ H b = none := by
  have e' : h.get? b = some o := PySem.W.of_hideAll (Xd h H) e
  refine ⟨e', ?_⟩
  cases q : H b with
  | none => rfl
  | some x =>
    have hm : b ∈ Xd h H := List.mem_filter.mpr ⟨List.mem_range.mpr (Heap.lt_size e'), by simp [q]⟩
    have z : (LC h H).get? b = none := PySem.W.hideAll_none (Xd h H) hm
    rw [z] at e; cases e
def ACI (g h : Heap) (L : Addr) : List (Addr × Obj) := (List.range h.objs.size).filterMap fun a => if a = L ∨ (g.get? a).isSome = true then none else (h.get? a).map fun o => (a, o)
def rest (g h : Heap) (L d : Addr) : List (Addr × Obj) := (ACI g h L).filter fun p => decide (p.1 ≠ d)
end L2
namespace L2
open PySem PySem.Spec PyProof.Rows
structure Mod (K : Frag) (mg : Str → Option Value) (base : Heap) : Prop where
  kin : K.In base
  glob : base.Ns mainGlobals mg
  blt : ∃ mb, base.Ns builtinsNs mb ∧ ∀ x : Str, x ≠ "__name__" → mb x = bootBuiltins x
  nolimit : base.NoLimit
structure Cx where
  prog : Program
  w : World
  K : Frag
  mg : Str → Option Value
  base : Heap
  A : Around
  N : List Str
  s₀ : Shared
  H₀ : Hp
  env : Env
  outer : List Env
  stack : List Env
  ex : List Addr
  fn : Str → Bool
  calm : Bool
  pn : List (Addr × Obj)
  xe : Value → Shared → Prop
def EY (l : List Env) : List Addr := l.filterMap (·.frame)
abbrev Cx.fs (X : Cx) : List Addr := EY X.outer
def Fx (sc : Scope) (x : Str) : Prop := sc.names.lookup x = some .local ∨ sc.names.lookup x = some .cell ∨ sc.names.lookup x = some .free
def Loc (sc : Scope) (x : Str) : Prop := sc.names.lookup x = some .local ∨ sc.names.lookup x = some .cell
def Look (env : Env) (h : Heap) (m : Str → Option Value) (x : Str) (u : Value) : Prop :=
  (env.kindOf x = some .local ∧ m x = some u) ∨ ((env.kindOf x = some .cell ∨ env.kindOf x = some .free) ∧ ∃ c, env.cells.lookup x = some c ∧ h.IsCell c (some u))
structure Cx.Ok (X : Cx) : Prop where
  mod : Mod X.K X.mg X.base
  kind : X.env.scope.kind = .function
  glob : X.env.globals = mainGlobals
  blt : X.env.builtins = builtinsNs
  above : X.s₀.heap.objs.size ≤ X.env.locals
  inj : ∀ x y c, X.env.cells.lookup x = some c → X.env.cells.lookup y = some c → x = y
  has : ∀ x, (X.env.kindOf x = some .cell ∨ X.env.kindOf x = some .free) → ∃ c, X.env.cells.lookup x = some c
  cab : ∀ x c, X.fn x = true → X.env.cells.lookup x = some c → X.s₀.heap.objs.size ≤ c
  hd : X.calm = true → X.A.handled = none
  frames : X.A.frames = some X.stack
  stk : X.stack = X.outer ∨ (X.stack = X.env :: X.outer ∧ X.env.frame = some X.env.locals)
  exf : ∀ b ∈ X.ex, b ≠ X.env.locals ∧ ∀ x c, X.env.cells.lookup x = some c → c ≠ b
  bs : ∀ b o, X.base.get? b = some o → X.s₀.heap.get? b = some o ∧ X.H₀ b = none
  bsz : X.base.objs.size ≤ X.s₀.heap.objs.size
  noex : ∀ b o, X.base.get? b = some o → b ∉ X.ex
  exfs : ∀ b ∈ X.ex, b ∉ X.fs
  HR : X.s₀.heap.FunFrames X.base X.outer
  frf : ∀ b ∈ X.fs, X.H₀ b = none
structure Inv (X : Cx) (pins : List (Addr × Obj)) (σ : List (Option V)) (H : Hp) (s : Shared) : Prop where
  ok : X.Ok
  os : s.os = X.s₀.os
  bare : AllBare s.gens
  base : Un X.fs X.ex X.H₀ H X.s₀.heap s.heap
  loc : ∃ m, s.heap.Ns X.env.locals m ∧ ∀ (i : Nat) (x : Str) (v : V), X.N[i]? = some x → σ[i]? = some (some v) → Fx X.env.scope x → ∃ u, RelV v u ∧ Look X.env s.heap m x u
  cell : ∀ x c, X.env.cells.lookup x = some c → ∃ v, s.heap.IsCell c v
  free : H X.env.locals = none
  freeC : ∀ x c, X.env.cells.lookup x = some c → H c = none
  pin : ∀ p ∈ X.pn ++ pins, s.heap.get? p.1 = some p.2 ∧ H p.1 = none ∧ p.1 ≠ X.env.locals ∧ p.1 ∉ X.fs ∧ ∀ v, p.2.data ≠ .cell v
  hok : Ec X.prog X.w H s.heap
  len : σ.length = X.N.length
section
variable {X : Cx} {pins : List (Addr × Obj)} {σ : List (Option V)} {H H' : Hp} {s : Shared} {h' : Heap}
theorem Cx.Ok.AEs (ok : X.Ok) {b : Addr} {o : Obj} (e : X.base.get? b = some o) : b ∉ X.fs := fun hb => by
  have := (ok.HR.mem hb).1
  rw [e] at this; cases this
theorem Inv.bs (I : Inv X pins σ H s) : ∀ b o, X.base.get? b = some o → s.heap.get? b = some o ∧ H b = none := fun b o e =>
  ⟨I.base.keep b o (I.ok.bs b o e).1 (I.ok.bs b o e).2 (I.ok.AEs e) (I.ok.noex b o e), I.base.free b o (I.ok.bs b o e).1 (I.ok.bs b o e).2 (I.ok.noex b o e)⟩
theorem Inv.bk (I : Inv X pins σ H s) : ∀ b o, X.base.get? b = some o → s.heap.get? b = some o := fun b o e => (I.bs b o e).1
theorem Inv.mod (I : Inv X pins σ H s) : Mod X.K X.mg X.base := I.ok.mod
theorem Inv.DW (I : Inv X pins σ H s) : X.K.In s.heap := I.ok.mod.kin.keeps I.bk
theorem Inv.lt (I : Inv X pins σ H s) : X.env.locals < s.heap.objs.size := let ⟨_, hn, _⟩ := I.loc; hn.lt
theorem Inv.sz (I : Inv X pins σ H s) : X.s₀.heap.objs.size ≤ s.heap.objs.size := Nat.le_trans I.ok.above (Nat.le_of_lt I.lt)
theorem Inv.uR (I : Inv X pins σ H s) {a : Addr} (h : s.heap.objs.size ≤ a) : a ∉ X.fs := fun hb => by
  obtain ⟨_, o, ho, _⟩ := I.ok.HR.mem hb
  exact absurd (Nat.lt_of_lt_of_le (Heap.lt_size ho) (Nat.le_trans I.sz h)) (Nat.lt_irrefl _)
theorem Inv.Iz (I : Inv X pins σ H s) : ∀ x c, X.env.cells.lookup x = some c → c ≠ X.env.locals := fun x c e z => by
  obtain ⟨v, o, ho, hd⟩ := I.cell x c e
  obtain ⟨m, ⟨o', es, ep, ho', hd', _⟩, _⟩ := I.loc
  rw [z, ho'] at ho; cases ho; rw [hd'] at hd; cases hd
theorem Inv.HR (I : Inv X pins σ H s) : s.heap.FunFrames X.base X.outer := by
  have all : ∀ (l : List Env), (∀ b ∈ EY l, b ∈ X.fs) → X.s₀.heap.FunFrames X.base l → s.heap.FunFrames X.base l := by
    intro l
    induction l with
    | nil => intro _ _; trivial
    | cons env r ih =>
      intro hs hl
      obtain ⟨hk, ⟨L, o, hf, hn, ho, hd⟩, hr⟩ := hl
      have hL : L ∈ X.fs := hs L (by unfold EY; rw [List.filterMap_cons, hf]; exact Bp)
      obtain ⟨sl, e⟩ := I.base.slot L o ho (I.ok.frf L hL) hL fun z => I.ok.exfs L z hL
      exact ⟨hk, ⟨L, _, hf, hn, e, hd⟩, ih (fun b hb => hs b (by unfold EY; rw [List.filterMap_cons, hf]; exact BK hb)) hr⟩
  exact all X.outer (fun _ hb => hb) I.ok.HR
theorem Inv.stack (I : Inv X pins σ H s) : s.heap.FunFrames X.base X.stack := by
  rcases I.ok.stk with e | ⟨e, hf⟩
  · rw [e]; exact I.HR
  · rw [e]
    obtain ⟨m, hn, _⟩ := I.loc
    refine .cons (by rw [I.ok.kind]; decide) hf hn ?_ I.HR
    exact Heap.get?_none_of_le (Nat.le_trans I.ok.bsz I.ok.above)
theorem Inv.X7 (I : Inv X pins σ H s) : ∀ b ∈ EY X.stack, b ∈ X.env.locals :: X.fs := fun b hb => by
  rcases I.ok.stk with e | ⟨e, hf⟩
  · rw [e] at hb; exact BK hb
  · rw [e] at hb
    unfold EY at hb
    rw [List.filterMap_cons, hf] at hb
    exact hb
theorem Inv.bQ (I : Inv X pins σ H s) : ∀ b ∈ EY X.stack, H b = none := fun b hb => by
  rcases List.mem_cons.mp (I.X7 b hb) with e | hb
  · rw [e]; exact I.free
  · obtain ⟨_, o, ho, _⟩ := I.ok.HR.mem hb
    exact I.base.free b o ho (I.ok.frf b hb) fun z => I.ok.exfs b z hb
theorem Inv.step {g' : Array GenState} {t' : Nat} {d' : Drawn} {ch : List Addr} (I : Inv X pins σ H s) (hch : ∀ b ∈ ch, (b ∈ X.ex ∨ X.s₀.heap.objs.size ≤ b) ∧ b ≠ X.env.locals ∧ (∀ x c, X.env.cells.lookup x = some c → c ≠ b) ∧ ∀ p ∈ X.pn ++ pins, p.1 ≠ b) (keep : ∀ b o, b ≠ X.env.locals → b ∉ X.fs → b ∉ ch → s.heap.get? b = some o → H b = none → h'.get? b = some o) (slot : ∀ b o, b ≠ X.env.locals → b ∈ X.fs → b ∉ ch → s.heap.get? b = some o → H b = none → ∃ sl, h'.get? b = some { o with slots := sl }) (free : ∀ b o, b ∉ ch → s.heap.get? b = some o → H b = none → H' b = none) (there : ∀ b o, b ∉ ch → s.heap.get? b = some o → ∃ o', h'.get? b = some o') (tups : ∀ b xs, H b = some (.tup xs) → H' b = some (.tup xs)) (frzs : ∀ b o u, H b = some (.frz o u) → H' b = some (.frz o u)) (tbls : ∀ b ps, H b = some (.tbl ps) → ∃ more, H' b = some (.tbl (ps ++ more))) (ns : ∀ m, s.heap.Ns X.env.locals m → h'.Ns X.env.locals m) (hok : Ec X.prog X.w H' h') (hg : AllBare g') :
    Inv X pins σ H' { s with heap := h', gens := g', drawn := d', toks := t' } := by
  have neL : ∀ b o, X.s₀.heap.get? b = some o → b ≠ X.env.locals := fun b o e => Nat.ne_of_lt (Nat.lt_of_lt_of_le (Heap.lt_size e) I.ok.above)
  have neC : ∀ b o, X.s₀.heap.get? b = some o → b ∉ X.ex → b ∉ ch := fun b o e hx hb => by
    rcases (hch b hb).1 with z | z
    · exact hx z
    · exact absurd (Nat.lt_of_lt_of_le (Heap.lt_size e) z) (Nat.lt_irrefl _)
  have cellK : ∀ x c, X.env.cells.lookup x = some c → ∀ v, s.heap.IsCell c v → h'.IsCell c v := fun x c e v ⟨o, ho, hd⟩ => by
    have nch : c ∉ ch := fun z => (hch c z).2.2.1 x c e rfl
    by_cases hc : c ∈ X.fs
    · obtain ⟨sl, q⟩ := slot c o (I.Iz x c e) hc nch ho (I.freeC x c e)
      exact ⟨_, q, hd⟩
    · exact ⟨o, keep c o (I.Iz x c e) hc nch ho (I.freeC x c e), hd⟩
  refine ⟨I.ok, I.os, hg, ⟨fun b o e n hb hx => ?_, fun b o e n hb hx => ?_, fun b o e n hx => ?_, fun b o e hx => ?_, fun b xs e => tups b xs (I.base.tups b xs e), fun b o xs e => frzs b o xs (I.base.frzs b o xs e), fun b ps e => ?_⟩, ?_, fun x c e => ?_, ?_, fun x c e => ?_, fun p hp => ?_, hok, I.len⟩
  · exact keep b o (neL b o e) hb (neC b o e hx) (I.base.keep b o e n hb hx) (I.base.free b o e n hx)
  · obtain ⟨sl, e1⟩ := I.base.slot b o e n hb hx
    obtain ⟨sl', e2⟩ := slot b _ (neL b o e) hb (neC b o e hx) e1 (I.base.free b o e n hx)
    exact ⟨sl', e2⟩
  · obtain ⟨o', e1⟩ := I.base.there b o e hx
    exact free b o' (neC b o e hx) e1 (I.base.free b o e n hx)
  · obtain ⟨o', e1⟩ := I.base.there b o e hx
    exact there b o' (neC b o e hx) e1
  · obtain ⟨m1, e1⟩ := I.base.tbls b ps e
    obtain ⟨m2, e2⟩ := tbls b _ e1
    exact ⟨m1 ++ m2, by rw [e2, Array.append_assoc]⟩
  · obtain ⟨m, hn, hl⟩ := I.loc
    refine ⟨m, ns m hn, fun i x v e1 e2 e3 => ?_⟩
    obtain ⟨u, r, l⟩ := hl i x v e1 e2 e3
    refine ⟨u, r, ?_⟩
    rcases l with l | ⟨k, c, e, z⟩
    · exact .inl l
    · exact .inr ⟨k, c, e, cellK x c e _ z⟩
  · obtain ⟨v, z⟩ := I.cell x c e
    exact ⟨v, cellK x c e v z⟩
  · obtain ⟨m, ⟨o, _, _, ho, _⟩, _⟩ := I.loc
    exact free _ o (fun z => (hch _ z).2.1 rfl) ho I.free
  · obtain ⟨v, o, ho, hd⟩ := I.cell x c e
    exact free c o (fun z => (hch c z).2.2.1 x c e rfl) ho (I.freeC x c e)
  · obtain ⟨e, n, ne, nf, d⟩ := I.pin p hp
    have nch : p.1 ∉ ch := fun z => (hch p.1 z).2.2.2 p hp rfl
    exact ⟨keep p.1 p.2 ne nf nch e n, free p.1 p.2 nch e n, ne, nf, d⟩
theorem Inv.un {t' : Nat} (I : Inv X pins σ H s) (u : Un X.fs [] H H' s.heap h') (hok : Ec X.prog X.w H' h') : Inv X pins σ H' { s with heap := h', toks := t' } := by
  obtain ⟨m, ⟨o, es, ep, ho, r⟩, _⟩ := id I.loc
  obtain ⟨sl, hL⟩ := u.any ho I.free (by simp)
  exact I.step (g' := s.gens) (d' := s.drawn) (ch := []) (fun _ z => nomatch z) (fun b o _ hb _ e n => u.keep b o e n hb (by simp)) (fun b o _ hb _ e n => u.slot b o e n hb (by simp)) (fun b o _ e n => u.free b o e n (by simp)) (fun b o _ e => u.there b o e (by simp)) u.tups u.frzs u.tbls (fun m' hm => by
    obtain ⟨o', es', ep', ho', r'⟩ := hm
    rw [ho] at ho'; cases ho'
    exact ⟨_, es', ep', hL, r'⟩) hok I.bare
theorem Inv.call {g' : Array GenState} {t' : Nat} {d' : Drawn} {ch : List Addr} (I : Inv X pins σ H s) (u : Un (EY X.stack) ch H H' s.heap h') (hok : Ec X.prog X.w H' h') (hg : AllBare g') (hch : ∀ b ∈ ch, (b ∈ X.ex ∨ X.s₀.heap.objs.size ≤ b) ∧ b ≠ X.env.locals ∧ (∀ x c, X.env.cells.lookup x = some c → c ≠ b) ∧ ∀ p ∈ X.pn ++ pins, p.1 ≠ b) :
    Inv X pins σ H' { s with heap := h', gens := g', drawn := d', toks := t' } := by
  obtain ⟨m, ⟨o, es, ep, ho, r⟩, _⟩ := id I.loc
  obtain ⟨sl, hL⟩ := u.any ho I.free fun z => (hch _ z).2.1 rfl
  exact I.step (ch := ch) hch (fun b o hL hb hc e n => u.keep b o e n (fun z => (List.mem_cons.mp (I.X7 b z)).elim hL hb) hc) (fun b o _ _ hc e n => u.any e n hc) (fun b o hc e n => u.free b o e n hc) (fun b o hc e => u.there b o e hc) u.tups u.frzs u.tbls (fun m' hm => by
    obtain ⟨o', es', ep', ho', r'⟩ := hm
    rw [ho] at ho'; cases ho'
    exact ⟨_, es', ep', hL, r'⟩) hok hg
theorem Inv.turned {t' : Nat} {it : Addr} (I : Inv X pins σ H s) (k : ∀ b o, b ≠ it → s.heap.get? b = some o → h'.get? b = some o) (hn : H it = none) (hL : it ≠ X.env.locals) (h1 : it ∈ X.ex ∨ X.s₀.heap.objs.size ≤ it) (h2 : ∀ x c, X.env.cells.lookup x = some c → c ≠ it) (h3 : ∀ p ∈ X.pn ++ pins, p.1 ≠ it) : Inv X pins σ H { s with heap := h', toks := t' } := by
  have nit : ∀ b u, H b = some u → b ≠ it := fun b u e z => by rw [z, hn] at e; cases e
  refine I.step (g' := s.gens) (d' := s.drawn) (ch := [it]) (fun b hb => ?_) (fun b o _ _ hc e _ => k b o (fun z => hc (by simp [z])) e) (fun b o _ _ hc e _ => ⟨o.slots, k b o (fun z => hc (by simp [z])) e⟩) (fun _ _ _ _ n => n)
    (fun b o hc e => ⟨o, k b o (fun z => hc (by simp [z])) e⟩) (fun _ _ e => e) (fun _ _ _ e => e) (fun b ps e => ⟨#[], by rw [e]; simp⟩) (fun m hm => ?_) (fun b u e => ?_) I.bare
  · have e : b = it := by simpa using hb
    subst e
    exact ⟨h1, hL, h2, h3⟩
  · obtain ⟨o, es, ep, ho, r⟩ := hm
    exact ⟨o, es, ep, k _ o (Ne.symm hL) ho, r⟩
  · refine (I.hok b u e).Jk (fun c v hc q => k c v ?_ q) (fun _ q => q) fun _ _ q => q
    rcases hc with z | z
    · rw [z]; exact nit b u e
    · exact nit c _ z
theorem Inv.tok (I : Inv X pins σ H s) (t : Nat) : Inv X pins σ H { s with toks := t } := I.un (h' := s.heap) (t' := t) Un.refl I.hok
theorem Inv.kept {t' : Nat} (I : Inv X pins σ H s) (k : ∀ b u, s.heap.get? b = some u → h'.get? b = some u) : Inv X pins σ H { s with heap := h', toks := t' } := I.un (Un.kept k) (I.hok.kept k)
theorem Inv.laid {a : Addr} {o : HO} {t' : Nat} (I : Inv X pins σ H s) (k : ∀ b u, s.heap.get? b = some u → h'.get? b = some u) (hp : s.heap.objs.size ≤ a) (new : Em X.prog X.w (upd H a o) h' a o) :
    Inv X pins σ (upd H a o) { s with heap := h', toks := t' } := I.un (Un.laid k hp (I.hok.fresh hp)) (I.hok.laid k hp new)
theorem Inv.write {x e : Addr} {o : HO} {t' : Nat} (I : Inv X pins σ H s) (mu : Xp (H x)) (he : e = x ∨ H e = some (.own x)) (k : ∀ b u, b ≠ e → s.heap.get? b = some u → h'.get? b = some u) (heo : ∃ u, h'.get? e = some u) (new : Em X.prog X.w (upd H x o) h' x o) : Inv X pins σ (upd H x o) { s with heap := h', toks := t' } := I.un (Un.write mu he k heo) (I.hok.write mu he k heo new)
theorem Inv.weak {σ' : List (Option V)} (I : Inv X pins σ H s) (hl : σ'.length = σ.length) (w : ∀ (i : Nat) v, σ'[i]? = some (some v) → σ[i]? = some (some v)) : Inv X pins σ' H s :=
  ⟨I.ok, I.os, I.bare, I.base, let ⟨m, hn, hl'⟩ := I.loc; ⟨m, hn, fun i x v e1 e2 e3 => hl' i x v e1 (w i v e2) e3⟩, I.cell, I.free, I.freeC, I.pin, I.hok, hl.trans I.len⟩
theorem Inv.ZK {pins' : List (Addr × Obj)} (I : Inv X pins σ H s) (h : ∀ p ∈ pins', s.heap.get? p.1 = some p.2 ∧ H p.1 = none ∧ p.1 ≠ X.env.locals ∧ p.1 ∉ X.fs ∧ ∀ v, p.2.data ≠ .cell v) : Inv X pins' σ H s :=
  ⟨I.ok, I.os, I.bare, I.base, I.loc, I.cell, I.free, I.freeC, fun p hp => (List.mem_append.mp hp).elim (fun z => I.pin p (Cy z)) (h p), I.hok, I.len⟩
theorem dN {N : List Str} (hN : N.Nodup) {i j : Nat} {x : Str} (a : N[i]? = some x) (b : N[j]? = some x) : i = j := by
  obtain ⟨h1, e1⟩ := List.getElem?_eq_some_iff.mp a
  obtain ⟨h2, e2⟩ := List.getElem?_eq_some_iff.mp b
  exact (List.getElem_inj hN).mp (e1.trans e2.symm)
theorem z8 {M : Model} {A : Around} {E : Value → Shared → Prop} {i : Nat} {x : Str} {v : V} {u : Value} {Q : Unit → Shared → Prop} (I : Inv X pins σ H s) (hN : X.N.Nodup) (hi : X.N[i]? = some x) (hx : Loc X.env.scope x) (r : RelV v u) (h : ∀ s', Inv X pins (σ.set i (some v)) H s' → (∃ a, Heap.SameBut a s.heap s'.heap ∧ (a = X.env.locals ∨ X.env.cells.lookup x = some a)) → Q () s') (hf : X.fn x = true ∨ X.env.scope.names.lookup x = some .local := by first | exact .inl rfl | exact .inr rfl | assumption) : wpAny M A (storeName X.env x u) Q E s := by
  obtain ⟨m, hn, hl⟩ := id I.loc
  have hcls : (X.env.scope.kind == .class || (X.env.scope.kind == .module && X.env.locals != X.env.globals)) = false := by rw [I.ok.kind]; rfl
  have hiσ : i < σ.length := by rw [I.len]; exact (List.getElem?_eq_some_iff.mp hi).1
  have Iz := I.Iz
  have tracked : ∀ {a : Addr} {h' : Heap}, (∃ o, s.heap.get? a = some o ∧ H a = none) → Heap.SameBut a s.heap h' → Ec X.prog X.w H h' := fun {a h'} ha hs b ob e => by
    obtain ⟨_, _, hfree⟩ := ha
    refine (I.hok b ob e).Jk (fun c w' hc q => (hs.2 c ?_).trans q) (fun _ q => q) fun _ _ q => q
    rintro rfl
    rcases hc with rfl | hc
    · rw [hfree] at e; cases e
    · rw [hfree] at hc; cases hc
  rcases hx with hk | hk
  · refine wpAny_storeName_local hk hn (fun h' hn' hs => ?_) hcls
    obtain ⟨oL, _, _, hoL, _⟩ := id hn
    refine h _ ⟨I.ok, I.os, I.bare, ⟨fun b o e n hb hx => ?_, fun b o e n hb hx => ?_, I.base.free, fun b o e hx => ?_, I.base.tups, I.base.frzs, I.base.tbls⟩, ⟨_, hn', fun j y v' e1 e2 e3 => ?_⟩, fun y c e => ?_, I.free, I.freeC, fun p hp => ?_, tracked ⟨oL, hoL, I.free⟩ hs, by simpa using I.len⟩ ⟨_, hs, .inl rfl⟩
    · exact (hs.2 b (Nat.ne_of_lt (Nat.lt_of_lt_of_le (Heap.lt_size e) I.ok.above))).trans (I.base.keep b o e n hb hx)
    · obtain ⟨sl, e1⟩ := I.base.slot b o e n hb hx
      exact ⟨sl, (hs.2 b (Nat.ne_of_lt (Nat.lt_of_lt_of_le (Heap.lt_size e) I.ok.above))).trans e1⟩
    · obtain ⟨o', e1⟩ := I.base.there b o e hx
      exact ⟨o', (hs.2 b (Nat.ne_of_lt (Nat.lt_of_lt_of_le (Heap.lt_size e) I.ok.above))).trans e1⟩
    · by_cases hj : j = i
      · subst hj
        rw [hi] at e1; cases e1
        rw [List.getElem?_set_self hiσ] at e2
        cases e2
        exact ⟨u, r, .inl ⟨hk, by simp⟩⟩
      · rw [List.getElem?_set_ne (Ne.symm hj)] at e2
        obtain ⟨u', r', q⟩ := hl j y v' e1 e2 e3
        refine ⟨u', r', ?_⟩
        rcases q with ⟨k, e⟩ | ⟨k, c, e, z⟩
        · refine .inl ⟨k, ?_⟩
          have : y ≠ x := fun e => hj (dN hN e1 (e ▸ hi))
          simp [this, e]
        · exact .inr ⟨k, c, e, z.sameBut hs (Iz y c e)⟩
    · obtain ⟨w', z⟩ := I.cell y c e
      exact ⟨w', z.sameBut hs (Iz y c e)⟩
    · obtain ⟨e, n, ne, nf, d⟩ := I.pin p hp
      exact ⟨(hs.2 p.1 ne).trans e, n, ne, nf, d⟩
  · have hfn : X.fn x = true := by
      rcases hf with z | z
      · exact z
      · rw [z] at hk; cases hk
    obtain ⟨c, hc⟩ := I.ok.has x (.inl hk)
    obtain ⟨w', z⟩ := I.cell x c hc
    refine wpAny_storeName_cell I.ok.kind hk hc z (fun h' hc' hs => ?_)
    obtain ⟨oc, hoc, hocd⟩ := id z
    refine h { s with heap := h' } ⟨I.ok, I.os, I.bare, ⟨fun b o e n hb hx => ?_, fun b o e n hb hx => ?_, I.base.free, fun b o e hx => ?_, I.base.tups, I.base.frzs, I.base.tbls⟩, ⟨m, hn.sameBut hs (Ne.symm (Iz x c hc)), fun j y v' e1 e2 e3 => ?_⟩, fun y c' e => ?_, I.free, I.freeC, fun p hp => ?_, tracked ⟨oc, hoc, I.freeC x c hc⟩ hs, by simpa using I.len⟩ ⟨c, hs, .inr hc⟩
    · exact (hs.2 b (Nat.ne_of_lt (Nat.lt_of_lt_of_le (Heap.lt_size e) (I.ok.cab x c hfn hc)))).trans (I.base.keep b o e n hb hx)
    · obtain ⟨sl, e1⟩ := I.base.slot b o e n hb hx
      exact ⟨sl, (hs.2 b (Nat.ne_of_lt (Nat.lt_of_lt_of_le (Heap.lt_size e) (I.ok.cab x c hfn hc)))).trans e1⟩
    · obtain ⟨o', e1⟩ := I.base.there b o e hx
      exact ⟨o', (hs.2 b (Nat.ne_of_lt (Nat.lt_of_lt_of_le (Heap.lt_size e) (I.ok.cab x c hfn hc)))).trans e1⟩
    · by_cases hj : j = i
      · subst hj
        rw [hi] at e1; cases e1
        rw [List.getElem?_set_self hiσ] at e2
        cases e2
        exact ⟨u, r, .inr ⟨.inl hk, c, hc, hc'⟩⟩
      · rw [List.getElem?_set_ne (Ne.symm hj)] at e2
        obtain ⟨u', r', q⟩ := hl j y v' e1 e2 e3
        refine ⟨u', r', ?_⟩
        rcases q with q | ⟨k, c', e, z'⟩
        · exact .inl q
        · refine .inr ⟨k, c', e, z'.sameBut hs ?_⟩
          rintro rfl
          exact hj (dN hN e1 (I.ok.inj _ _ _ e hc ▸ hi))
    · by_cases hcc : c' = c
      · subst hcc; exact ⟨_, hc'⟩
      · obtain ⟨w2, z2⟩ := I.cell y c' e
        exact ⟨w2, z2.sameBut hs hcc⟩
    · obtain ⟨e, n, ne, nf, d⟩ := I.pin p hp
      refine ⟨(hs.2 p.1 ?_).trans e, n, ne, nf, d⟩
      intro q
      rw [q, hoc] at e
      have q' : oc = p.2 := Option.some.inj e
      exact d w' (by rw [← q']; exact hocd)
theorem Zo {M : Model} {A : Around} {E : Value → Shared → Prop} {i : Nat} {x : Str} {v : V} {u : Value} {Q : Unit → Shared → Prop} (I : Inv X pins σ H s) (hN : X.N.Nodup) (hi : X.N[i]? = some x) (hx : Loc X.env.scope x) (r : RelV v u) (h : ∀ s', Inv X pins (σ.set i (some v)) H s' → Q () s') (hf : X.fn x = true ∨ X.env.scope.names.lookup x = some .local := by first | exact .inl rfl | exact .inr rfl | assumption) : wpAny M A (storeName X.env x u) Q E s :=
  z8 I hN hi hx r (fun s' I' _ => h s' I') hf
theorem Inv.uG {s' : Shared} {ch : List Addr} (I : Inv X pins σ H s) (ho : s'.os = s.os) (u : Un (EY X.stack) ch H H' s.heap s'.heap) (hok : Ec X.prog X.w H' s'.heap) (hg : AllBare s'.gens) (hch : ∀ b ∈ ch, (b ∈ X.ex ∨ X.s₀.heap.objs.size ≤ b) ∧ b ≠ X.env.locals ∧ (∀ x c, X.env.cells.lookup x = some c → c ≠ b) ∧ ∀ p ∈ X.pn ++ pins, p.1 ≠ b) : Inv X pins σ H' s' := by
  obtain ⟨h', g', d', t', o'⟩ := s'
  have e : o' = s.os := ho
  subst e
  exact I.call (g' := g') (t' := t') (d' := d') u hok hg hch
end
abbrev XK := Value → Option Addr → Hp → Prop
abbrev St := List (Option V)
abbrev VK := V → Hp → Prop
abbrev TE := St → Hp → VK → Prop
abbrev TT := St → Hp → (Bool → Hp → Prop) → Prop
abbrev TA := St → Hp → (List V → Hp → Prop) → Prop
structure Ends where
  nx : St → Hp → Prop
  rt : VK
  bk : St → Hp → Prop := fun _ _ => False
  ct : St → Hp → Prop := fun _ _ => False
abbrev TS := Ends → St → Hp → Prop
def EP (X : Cx) (pins : List (Addr × Obj)) (σ : St) (Q : VK) (u : Value) (s' : Shared) : Prop := ∃ v H', Inv X pins σ H' s' ∧ RelV v u ∧ Q v H'
def TP (X : Cx) (pins : List (Addr × Obj)) (σ : St) (Q : Bool → Hp → Prop) (b : Bool) (s' : Shared) : Prop := ∃ H', Inv X pins σ H' s' ∧ Q b H'
def AP (X : Cx) (pins : List (Addr × Obj)) (σ : St) (Q : List V → Hp → Prop) (us : List Value) (s' : Shared) : Prop := ∃ vs H', Inv X pins σ H' s' ∧ Vals vs us ∧ Q vs H'
def SP (X : Cx) (pins : List (Addr × Obj)) (D : Ends) (f : Flow) (s' : Shared) : Prop :=
  match f with
  | .next => ∃ σ' H', Inv X pins σ' H' s' ∧ D.nx σ' H'
  | .brk => ∃ σ' H', Inv X pins σ' H' s' ∧ D.bk σ' H'
  | .cont => ∃ σ' H', Inv X pins σ' H' s' ∧ D.ct σ' H'
  | .ret u => ∃ v σ' H', Inv X pins σ' H' s' ∧ RelV v u ∧ D.rt v H'
def PE (X : Cx) (e : Expr) (t : TE) : Prop :=
  ∀ (pins : List (Addr × Obj)) (s : Shared) (σ : St) (H : Hp) (Q : VK), Inv X pins σ H s → t σ H Q → wpAny (model X.prog X.w) X.A (eval e X.env) (EP X pins σ Q) X.xe s
def PT (X : Cx) (e : Expr) (t : TT) : Prop :=
  ∀ (pins : List (Addr × Obj)) (s : Shared) (σ : St) (H : Hp) (Q : Bool → Hp → Prop), Inv X pins σ H s → t σ H Q → wpAny (model X.prog X.w) X.A (isTrue e X.env (eval e X.env)) (TP X pins σ Q) X.xe s
def PW (X : Cx) (e : Expr) (t : TT) : Prop :=
  ∀ (whole : Sem Value) (pins : List (Addr × Obj)) (s : Shared) (σ : St) (H : Hp) (Q : Bool → Hp → Prop), Inv X pins σ H s → t σ H Q → wpAny (model X.prog X.w) X.A (isTrue e X.env whole) (TP X pins σ Q) X.xe s
theorem PW.pt {X : Cx} {e : Expr} {t : TT} (h : PW X e t) : PT X e t := h _
def PA (X : Cx) (es : List Expr) (t : TA) : Prop :=
  ∀ (pos : Pos) (pins : List (Addr × Obj)) (s : Shared) (σ : St) (H : Hp) (Q : List V → Hp → Prop), Inv X pins σ H s → t σ H Q → wpAny (model X.prog X.w) X.A (spliced (backTo pos (starEach es X.env))) (AP X pins σ Q) X.xe s
def PS (X : Cx) (st : Stmt) (t : TS) : Prop :=
  ∀ (pins : List (Addr × Obj)) (s : Shared) (σ : St) (H : Hp) (D : Ends), Inv X pins σ H s → t D σ H → wpAny (model X.prog X.w) X.A (exec st X.env) (SP X pins D) X.xe s
def FZ (X : Cx) (st : List Stmt) (t : TS) : Prop :=
  ∀ (pins : List (Addr × Obj)) (s : Shared) (σ : St) (H : Hp) (D : Ends), Inv X pins σ H s → t D σ H → wpAny (model X.prog X.w) X.A (execs st X.env) (SP X pins D) X.xe s
theorem Bf {α : Type} {t : Sem α} {Q Q' : α → Shared → Prop} {M : Model} {A : Around} {E : Value → Shared → Prop} {s : Shared} (h : wpAny M A t Q E s) (hQ : ∀ a s, Q a s → Q' a s) : wpAny M A t Q' E s := wpAny_mono h hQ fun _ _ x => x
end L2
namespace L2
open PySem PySem.Spec PyProof.Rows
section
variable {X : Cx}
def Dm (i : Nat) : TE := fun σ H Q => ∃ v, σ[i]? = some (some v) ∧ Q v H
def tC (v : V) : TE := fun _ H Q => Q v H
theorem JH {i : Nat} {x : Str} {pos : Pos} (hN : X.N[i]? = some x) (hv : Fx X.env.scope x) (hd : (x == ("__debug__" : Str)) = false := by decide) (hcd : (x == ("__classdict__" : Str)) = false := by decide) : PE X (.Name x pos) (Dm i) := by
  intro pins s σ H Q I h
  obtain ⟨v, e, h⟩ := h
  obtain ⟨m, hn, hl⟩ := I.loc
  obtain ⟨u, r, l⟩ := hl i x v hN e hv
  have fin : EP X pins σ Q u s := ⟨v, H, I, r, h⟩
  rcases l with ⟨hk, hm⟩ | ⟨hk, c, hc, hcell⟩
  · exact wpAny_Name (wpAny_loadName_local I.ok.kind hk hn hm fin) hd
  · rcases hk with hk | hk
    · exact wpAny_Name (wpAny_loadName_cell I.ok.kind hk hc hcell fin) hd
    · exact wpAny_Name (wpAny_loadName_free I.ok.kind hk hc hcell fin hcd) hd
theorem AIB {i j pos} : PE X (.Constant (.int i) j pos) (tC (.int i)) := fun _ _ _ H _ I h => wpAny_Constant_int ⟨.int i, H, I.tok _, ⟨_, rfl⟩, h⟩
theorem AM1 {b j pos} : PE X (.Constant (.bool b) j pos) (tC (.bl b)) := fun _ _ _ H _ I h => Constant_bool ⟨.bl b, H, I, rfl, h⟩
theorem ADH {j pos} : PE X (.Constant .none j pos) (tC .non) := fun _ _ _ H _ I h => Constant_none ⟨.non, H, I, rfl, h⟩
theorem nA {x j pos} : PE X (.Constant (.str x) j pos) (tC (.str x)) := fun _ _ _ H _ I h => Calls.Constant_str ⟨.str x, H, I.tok _, ⟨_, rfl⟩, h⟩
def Gl (X : Cx) (x : Str) : Prop := X.env.kindOf x = some .globalImplicit
theorem Rp {E : Value → Shared → Prop} {pins : List (Addr × Obj)} {s : Shared} {σ : St} {H : Hp} {x : Str} {u : Value} {pos : Pos} {Q : Value → Shared → Prop} (I : Inv X pins σ H s) (hg : Gl X x) (hm : X.mg x = some u) (h : Q u s) (hd : (x == ("__debug__" : Str)) = false := by decide) : wpAny (model X.prog X.w) X.A (eval (.Name x pos) X.env) Q E s :=
  Calls.Name_function_global I.ok.kind hg (Calls.loadGlobal_global (by rw [I.ok.glob]; exact I.mod.glob.keeps I.bk) hm h) hd
theorem PJ {E : Value → Shared → Prop} {pins : List (Addr × Obj)} {s : Shared} {σ : St} {H : Hp} {x : Str} {u : Value} {pos : Pos} {Q : Value → Shared → Prop} (I : Inv X pins σ H s) (hg : Gl X x) (hm : X.mg x = none) (hv : bootBuiltins x = some u) (h : Q u s) (hn : x ≠ "__name__" := by decide) (hd : (x == ("__debug__" : Str)) = false := by decide) : wpAny (model X.prog X.w) X.A (eval (.Name x pos) X.env) Q E s := by
  obtain ⟨mb, h1, h2⟩ := I.mod.blt
  exact Calls.Name_function_global I.ok.kind hg (Calls.loadGlobal_builtin (by rw [I.ok.glob]; exact I.mod.glob.keeps I.bk) hm (by rw [I.ok.blt]; exact h1.keeps I.bk) ((h2 x hn).trans hv) h) hd
theorem Nt {x : Str} {v : V} {u : Value} {pos : Pos} (hg : Gl X x) (hm : X.mg x = some u) (r : RelV v u) (hd : (x == ("__debug__" : Str)) = false := by decide) : PE X (.Name x pos) (tC v) :=
  fun _ _ _ H _ I h => Rp I hg hm ⟨v, H, I, r, h⟩ hd
theorem iV {x : Str} {v : V} {u : Value} {pos : Pos} (hg : Gl X x) (hm : X.mg x = none) (hv : bootBuiltins x = some u) (r : RelV v u) (hn : x ≠ "__name__" := by decide) (hd : (x == ("__debug__" : Str)) = false := by decide) : PE X (.Name x pos) (tC v) :=
  fun _ _ _ H _ I h => PJ I hg hm hv ⟨v, H, I, r, h⟩ hn hd
variable {a b : Expr} {ta tb : TE} {pos : Pos}
def PC (X : Cx) (op : CmpOp) (a b : Expr) (t : TE) : Prop :=
  ∀ (pins : List (Addr × Obj)) (s : Shared) (σ : St) (H : Hp) (Q : VK), Inv X pins σ H s → t σ H Q →
    wpAny (model X.prog X.w) X.A (eval a X.env) (fun v s₁ => wpAny (model X.prog X.w) X.A (eval b X.env) (fun u s₂ => wpAny (model X.prog X.w) X.A (compareOp op v u) (EP X pins σ Q) X.xe s₂) X.xe s₁) X.xe s
def tB (t : TE) : TT := fun σ H Q => t σ H fun x H1 => ∃ c, x = .bl c ∧ Q c H1
theorem ANm {e : Expr} {t : TE} (h : PE X e t) (he : ∀ whole, isTrue e X.env whole = (do let v ← whole; standAt e.pos; holding [v] (truthy v)) := by intro _; rfl) : PT X e (tB t) := by
  intro pins s σ H Q I hw
  refine isTrue_plain (Bf (h pins s σ H _ I hw) fun v s1 ⟨x, H1, I1, r1, q1⟩ => ?_) (he _)
  obtain ⟨d, rfl, q⟩ := q1
  cases r1
  exact wpAny_truthy_bool ⟨H1, I1, q⟩
variable {tA tB' : TT} {rest : List Expr}
def tQ (t u : TT) : TT := fun σ H Q => t σ H fun c H1 => if c = true then u σ H1 Q else Q false H1
def rZ (t u : TT) : TT := fun σ H Q => t σ H fun c H1 => if c = true then Q true H1 else u σ H1 Q
def mQ (t : TT) : TT := fun σ H Q => t σ H fun c H1 => Q (!c) H1
theorem AJ1 (ha : PT X a tA) : PW X (.BoolOp .And [a] pos) tA := by
  intro wh pins s σ H Q I h
  refine isTrue_and (Bf (ha pins s σ H Q I h) fun c s1 e => ?_)
  cases c with
  | true => exact isTrue_and_nil e
  | false => exact e
theorem AGi (ha : PT X a tA) : PW X (.BoolOp .Or [a] pos) tA := by
  intro wh pins s σ H Q I h
  refine isTrue_or (Bf (ha pins s σ H Q I h) fun c s1 e => ?_)
  cases c with
  | false => exact isTrue_or_nil e
  | true => exact e
theorem AIC (ha : PT X a tA) (hb : PW X (.BoolOp .And (b :: rest) pos) tB') : PW X (.BoolOp .And (a :: b :: rest) pos) (tQ tA tB') := by
  intro wh pins s σ H Q I h
  refine isTrue_and (Bf (ha pins s σ H _ I h) fun c s1 ⟨H1, I1, q1⟩ => ?_)
  cases c with
  | true => exact hb wh pins s1 σ H1 Q I1 q1
  | false => exact ⟨H1, I1, q1⟩
theorem AMm (ha : PT X a tA) (hb : PW X (.BoolOp .Or (b :: rest) pos) tB') : PW X (.BoolOp .Or (a :: b :: rest) pos) (rZ tA tB') := by
  intro wh pins s σ H Q I h
  refine isTrue_or (Bf (ha pins s σ H _ I h) fun c s1 ⟨H1, I1, q1⟩ => ?_)
  cases c with
  | true => exact ⟨H1, I1, q1⟩
  | false => exact hb wh pins s1 σ H1 Q I1 q1
theorem AGB (ha : PT X a tA) : PT X (.UnaryOp .Not a pos) (mQ tA) := by
  intro pins s σ H Q I h
  exact isTrue_not (ha pins s σ H (fun c H1 => Q (!c) H1) I h)
def vR (ta tb : TE) : TE := fun σ H Q => ta σ H fun x H1 => ∃ c, x = .bl c ∧ if c = true then tb σ H1 Q else Q (.bl false) H1
def uA (ta tb : TE) : TE := fun σ H Q => ta σ H fun x H1 => ∃ c, x = .bl c ∧ if c = true then Q (.bl true) H1 else tb σ H1 Q
def yG (ta : TE) : TE := fun σ H Q => ta σ H fun x H1 => ∃ c, x = .bl c ∧ Q (.bl (!c)) H1
theorem AIm {op} {t : TE} (h : PE X a t) : PE X (.BoolOp op [a] pos) t := fun pins s σ H Q I hw => BoolOp_one (h pins s σ H Q I hw)
theorem ABI (ha : PE X a ta) (hb : PE X (.BoolOp .And (b :: rest) pos) tb) : PE X (.BoolOp .And (a :: b :: rest) pos) (vR ta tb) := by
  intro pins s σ H Q I h
  refine BoolOp_and (Bf (ha pins s σ H _ I h) fun v s1 ⟨x, H1, I1, r1, q1⟩ => ?_)
  obtain ⟨c, rfl, q1⟩ := q1
  cases r1
  refine wpAny_truthy_bool ?_
  cases c with
  | true => exact hb pins s1 σ H1 Q I1 q1
  | false => exact ⟨.bl false, H1, I1, rfl, q1⟩
theorem ALO (ha : PE X a ta) (hb : PE X (.BoolOp .Or (b :: rest) pos) tb) : PE X (.BoolOp .Or (a :: b :: rest) pos) (uA ta tb) := by
  intro pins s σ H Q I h
  refine BoolOp_or (Bf (ha pins s σ H _ I h) fun v s1 ⟨x, H1, I1, r1, q1⟩ => ?_)
  obtain ⟨c, rfl, q1⟩ := q1
  cases r1
  refine wpAny_truthy_bool ?_
  cases c with
  | false => exact hb pins s1 σ H1 Q I1 q1
  | true => exact ⟨.bl true, H1, I1, rfl, q1⟩
theorem ALg (ha : PE X a ta) : PE X (.UnaryOp .Not a pos) (yG ta) := by
  intro pins s σ H Q I h
  refine UnaryOp_ (Bf (ha pins s σ H _ I h) fun v s1 ⟨x, H1, I1, r1, q1⟩ => ?_)
  obtain ⟨c, rfl, q1⟩ := q1
  cases r1
  exact not_of (wpAny_truthy_bool ⟨.bl (!c), H1, I1, rfl, q1⟩)
def qX (t : TT) (ta tb : TE) : TE := fun σ H Q => t σ H fun c H1 => if c = true then ta σ H1 Q else tb σ H1 Q
theorem AKq {c : Expr} (hc : PT X c tA) (ha : PE X a ta) (hb : PE X b tb) : PE X (.IfExp c a b pos) (qX tA ta tb) := by
  intro pins s σ H Q I h
  refine wpAny_IfExp (Bf (hc pins s σ H _ I h) fun d s1 ⟨H1, I1, q1⟩ => ?_)
  cases d with
  | true => exact ha pins s1 σ H1 Q I1 q1
  | false => exact hb pins s1 σ H1 Q I1 q1
end
end L2
namespace L2
open PySem PySem.Spec PyProof.Rows
def Bg (K : Frag) (H : Hp) (a : Addr) (xs : List V) : Prop :=
  Rd H a (.lst xs) ∨
    ∃ (o : Obj) (its : Array Value) (n : Nat), K.lookup a = some o ∧ o.cls = .type "list" ∧ o.dict = none ∧ o.data = .seq its n ∧ its.size ≤ sizeLine ∧ Vals xs its.toList
def Dt (K : Frag) (H : Hp) (a : Addr) (xs : List V) : Prop :=
  Rd H a (.tup xs) ∨
    ∃ (o : Obj) (its : Array Value) (n : Nat), K.lookup a = some o ∧ o.cls = .type "tuple" ∧ o.data = .seq its n ∧ its.size ≤ sizeLine ∧ Vals xs its.toList
def ADh : Value → Option V
  | .none => some .non
  | .bool b => some (.bl b)
  | .int i _ => some (.int i)
  | .str x _ => some (.str x)
  | .bytes b _ => some (.byt b)
  | .float b _ => some (.flt b)
  | .ref a => some (.ref a)
  | .type n => some (.ty n)
  | _ => none
theorem RelV.abs {x : V} {u : Value} (r : RelV x u) : ADh u = some x := by
  cases x with
  | non => cases r; rfl
  | bl _ => cases r; rfl
  | int _ => obtain ⟨t, rfl⟩ := r; rfl
  | str _ => obtain ⟨t, rfl⟩ := r; rfl
  | byt _ => obtain ⟨t, rfl⟩ := r; rfl
  | flt _ => obtain ⟨t, rfl⟩ := r; rfl
  | ref _ => cases r; rfl
  | ty _ => cases r; rfl
theorem RelV.inj {x y : V} {u : Value} (r : RelV x u) (q : RelV y u) : x = y := Option.some.inj (r.abs.symm.trans q.abs)
theorem Vals.inj : ∀ {xs ys : List V} {us : List Value}, Vals xs us → Vals ys us → xs = ys
  | _, _, _, .nil, .nil => rfl
  | _, _, _, .cons r t, .cons r' t' => by rw [r.inj r', Vals.inj t t']
section
variable {X : Cx} {pins : List (Addr × Obj)} {σ : St} {H : Hp} {s : Shared} {a : Addr} {xs ys : List V}
theorem Bg.of {K : Frag} (h : H a = some (.lst xs)) : Bg K H a xs := .inl (.inl h)
theorem Dt.of {K : Frag} (h : H a = some (.tup xs)) : Dt K H a xs := .inl (.inl h)
theorem Inv.list (I : Inv X pins σ H s) (h : Bg X.K H a xs) : ∃ its : List Value, Vals xs its ∧ PlainL s.heap a its.toArray ∧ xs.length ≤ sizeLine := by
  rcases h with h | ⟨o, its, n, hk, hc, hd, hs, hz, r⟩
  · obtain ⟨z, its, n, r, e⟩ := h.ok I.hok
    exact ⟨its, r, ⟨_, n, e, rfl, rfl, rfl⟩, z⟩
  · refine ⟨its.toList, r, ⟨o, n, I.DW a o hk, hc, hd, by simpa using hs⟩, ?_⟩
    have e := r.length
    simp only [Array.length_toList] at e
    omega
theorem Inv.tuple (I : Inv X pins σ H s) (h : Dt X.K H a xs) : ∃ its : List Value, Vals xs its ∧ IsTup s.heap a its.toArray ∧ xs.length ≤ sizeLine := by
  rcases h with h | ⟨o, its, n, hk, hc, hs, hz, r⟩
  · obtain ⟨z, its, r, p⟩ := h.ok I.hok
    exact ⟨its, r, p, z⟩
  · refine ⟨its.toList, r, ⟨o, I.DW a o hk, hc, n, by simpa using hs⟩, ?_⟩
    have e := r.length
    simp only [Array.length_toList] at e
    omega
theorem Inv.V7 (I : Inv X pins σ H s) (h : Bg X.K H a xs) (h' : Bg X.K H a ys) : xs = ys := by
  obtain ⟨its, r, ⟨o, n, e, _, _, d⟩, _⟩ := I.list h
  obtain ⟨its', r', ⟨o', n', e', _, _, d'⟩, _⟩ := I.list h'
  rw [e] at e'; cases e'
  rw [d] at d'
  injection d' with d1 _
  have : its = its' := by simpa using congrArg Array.toList d1
  subst this
  exact r.inj r'
theorem Inv.AJt (I : Inv X pins σ H s) (h : Dt X.K H a xs) (h' : Dt X.K H a ys) : xs = ys := by
  obtain ⟨its, r, ⟨o, e, _, n, d⟩, _⟩ := I.tuple h
  obtain ⟨its', r', ⟨o', e', _, n', d'⟩, _⟩ := I.tuple h'
  rw [e] at e'; cases e'
  rw [d] at d'
  injection d' with d1 _
  have : its = its' := by simpa using congrArg Array.toList d1
  subst this
  exact r.inj r'
end
abbrev Cx.Hz (X : Cx) (E : Value → Shared → Prop) : Cx := { X with xe := E }
abbrev Cx.Fe (X : Cx) : Cx := X.Hz fun _ _ => False
theorem Cx.Ok.Hz {X : Cx} (ok : X.Ok) (E : Value → Shared → Prop) : (X.Hz E).Ok :=
  ⟨ok.mod, ok.kind, ok.glob, ok.blt, ok.above, ok.inj, ok.has, ok.cab, ok.hd, ok.frames, ok.stk, ok.exf, ok.bs, ok.bsz, ok.noex, ok.exfs, ok.HR, ok.frf⟩
theorem Cx.Ok.JD {X : Cx} {E : Value → Shared → Prop} (ok : (X.Hz E).Ok) : X.Ok :=
  ⟨ok.mod, ok.kind, ok.glob, ok.blt, ok.above, ok.inj, ok.has, ok.cab, ok.hd, ok.frames, ok.stk, ok.exf, ok.bs, ok.bsz, ok.noex, ok.exfs, ok.HR, ok.frf⟩
section
variable {X : Cx} {pins : List (Addr × Obj)} {σ : St} {H : Hp} {s : Shared} {E : Value → Shared → Prop}
theorem Inv.Hz (I : Inv X pins σ H s) (E : Value → Shared → Prop) : Inv (X.Hz E) pins σ H s := ⟨I.ok.Hz E, I.os, I.bare, I.base, I.loc, I.cell, I.free, I.freeC, I.pin, I.hok, I.len⟩
theorem Inv.JD (I : Inv (X.Hz E) pins σ H s) : Inv X pins σ H s := ⟨I.ok.JD, I.os, I.bare, I.base, I.loc, I.cell, I.free, I.freeC, I.pin, I.hok, I.len⟩
theorem SP.JD {D : Ends} {f : Flow} {s' : Shared} (h : SP (X.Hz E) pins D f s') : SP X pins D f s' := by
  cases f with
  | next => obtain ⟨σ', H', I, q⟩ := h; exact ⟨σ', H', I.JD, q⟩
  | brk => obtain ⟨σ', H', I, q⟩ := h; exact ⟨σ', H', I.JD, q⟩
  | cont => obtain ⟨σ', H', I, q⟩ := h; exact ⟨σ', H', I.JD, q⟩
  | ret u => obtain ⟨v, σ', H', I, r, q⟩ := h; exact ⟨v, σ', H', I.JD, r, q⟩
theorem PT.Fe {e : Expr} {t : TT} (h : PT X.Fe e t) : PT X e t := fun pins s σ H Q I hw =>
  wpAny_mono (h pins s σ H Q (I.Hz _) hw) (fun _ _ ⟨H', I', q⟩ => ⟨H', I'.JD, q⟩) fun _ _ z => False.elim z
theorem FZ.Fe {st : List Stmt} {t : TS} (h : FZ X.Fe st t) : FZ X st t := fun pins s σ H D I hw =>
  wpAny_mono (h pins s σ H D (I.Hz _) hw) (fun _ _ q => q.JD) fun _ _ z => False.elim z
end
section
variable {X : Cx} {st : Stmt} {rest : List Stmt} {t u : TS} {e : Expr} {te : TE} {pos : Pos}
def lJ : TS := fun D σ H => D.nx σ H
def Xn (t u : TS) : TS := fun D σ H => t { D with nx := u D } σ H
theorem AJm : FZ X [] lJ := fun _ _ σ H _ I h => wpAny_execs_nil ⟨σ, H, I, h⟩
theorem gJ (h1 : PS X st t) (h2 : FZ X rest u) : FZ X (st :: rest) (Xn t u) := by
  intro pins s σ H D I h
  refine wpAny_execs_cons (Bf (h1 pins s σ H { D with nx := u D } I h) fun f s1 q => ?_)
  cases f with
  | next =>
    obtain ⟨σ', H', I', q⟩ := q
    exact h2 pins s1 σ' H' D I' q
  | ret v => exact q
  | brk => exact q
  | cont => exact q
theorem d8 (h1 : PS X st t) : FZ X [st] t := by
  intro pins s σ H D I h
  refine wpAny_execs_cons (Bf (h1 pins s σ H D I h) fun f s1 q => ?_)
  cases f with
  | next => exact wpAny_execs_nil q
  | ret v => exact q
  | brk => exact q
  | cont => exact q
theorem Inv.quiet {pins : List (Addr × Obj)} {σ : St} {H : Hp} {s : Shared} (I : Inv X pins σ H s) : interactive X.env = false := by simp [interactive, I.ok.kind]
def Mi (te : TE) : TS := fun D σ H => te σ H fun _ H1 => D.nx σ H1
theorem UT (he : PE X e te) (hs : swapsWith e none pos.line X.env = pure false := by rfl) : PS X (.Expr e pos) (Mi te) := by
  intro pins s σ H D I h
  exact wpAny_Expr_any (Bf (he pins s σ H _ I h) fun v s1 ⟨x, H1, I1, r1, q1⟩ => ⟨σ, H1, I1, q1⟩) I.quiet hs
def Vb (te : TE) : TS := fun D σ H => te σ H D.rt
theorem W5 (he : PE X e te) : PS X (.Return (some e) pos) (Vb te) := by
  intro pins s σ H D I h
  exact wpAny_Return_some (Bf (he pins s σ H _ I h) fun v s1 ⟨x, H1, I1, r1, q1⟩ => ⟨x, σ, H1, I1, r1, q1⟩)
def Ze (c : TT) (t u : TS) : TS := fun D σ H => c σ H fun b H1 => if b = true then t D σ H1 else u D σ H1
theorem nU {c : Expr} {a b : List Stmt} {tc : TT} (hc : PT X c tc) (ha : FZ X a t) (hb : FZ X b u) : PS X (.If c a b pos) (Ze tc t u) := by
  intro pins s σ H D I h
  refine wpAny_If (Bf (hc pins s σ H _ I h) fun d s1 ⟨H1, I1, q1⟩ => ?_)
  cases d with
  | true => exact ha pins s1 σ H1 D I1 q1
  | false => exact hb pins s1 σ H1 D I1 q1
def nR : TS := fun _ _ _ => False
theorem AIM : PS X st nR := fun _ _ _ _ _ _ h => h.elim
end
abbrev TG := V → St → Hp → (St → Hp → Prop) → Prop
abbrev Nv := List V → St → Hp → (St → Hp → Prop) → Prop
def PG (X : Cx) (target : Expr) (t : TG) : Prop :=
  ∀ (pins : List (Addr × Obj)) (s : Shared) (σ : St) (H : Hp) (v : V) (u : Value) (Q : St → Hp → Prop), Inv X pins σ H s → RelV v u → t v σ H Q →
    wpAny (model X.prog X.w) X.A (assign target X.env u) (fun _ s' => ∃ σ' H', Inv X pins σ' H' s' ∧ Q σ' H') X.xe s
def X5 (X : Cx) (ts : List Expr) (t : Nv) : Prop :=
  ∀ (pins : List (Addr × Obj)) (s : Shared) (σ : St) (H : Hp) (vs : List V) (us : List Value) (Q : St → Hp → Prop), Inv X pins σ H s → Vals vs us → t vs σ H Q →
    wpAny (model X.prog X.w) X.A (assignInOrder ((assignEach ts X.env).map (·.2)) us) (fun _ s' => ∃ σ' H', Inv X pins σ' H' s' ∧ Q σ' H') X.xe s
abbrev bD := V → V → V → Hp → (Hp → Prop) → Prop
def uN (X : Cx) (t : bD) : Prop :=
  ∀ (pins : List (Addr × Obj)) (s : Shared) (σ : St) (H : Hp) (o i v : V) (ov iv u : Value) (Q : Hp → Prop), Inv X pins σ H s → RelV o ov → RelV i iv → RelV v u → t o i v H Q →
    wpAny (model X.prog X.w) X.A (setItem ov iv u) (fun _ s' => ∃ H', Inv X pins σ H' s' ∧ Q H') X.xe s
section
variable {X : Cx} {pos : Pos}
def FN (i : Nat) : TG := fun v σ H Q => Q (σ.set i (some v)) H
theorem Jm {i : Nat} {x : Str} (hN : X.N.Nodup) (hi : X.N[i]? = some x) (hx : Loc X.env.scope x) (hf : X.fn x = true ∨ X.env.scope.names.lookup x = some .local := by first | exact .inl rfl | exact .inr rfl | assumption) : PG X (.Name x pos) (FN i) := by
  intro pins s σ H v u Q I r h
  exact wpAny_assign_Name (Zo I hN hi hx r (fun s' I' => ⟨_, H, I', h⟩) hf)
def TF : Nv := fun vs σ H Q => vs = [] ∧ Q σ H
def Jg (t : TG) (u : Nv) : Nv := fun vs σ H Q => ∃ v r, vs = v :: r ∧ t v σ H fun σ' H' => u r σ' H' Q
theorem aW : X5 X [] TF := by
  intro pins s σ H vs us Q I r h
  obtain ⟨e, h⟩ := h
  subst e
  cases r
  exact assignInOrder_nil ⟨σ, H, I, h⟩
theorem QV {e : Expr} {es : List Expr} {t : TG} {u : Nv} (h1 : PG X e t) (h2 : X5 X es u) (hs : (assignEach (e :: es) X.env).map (·.2) = assign e X.env :: (assignEach es X.env).map (·.2) := by rfl) : X5 X (e :: es) (Jg t u) := by
  intro pins s σ H vs us Q I r h
  obtain ⟨v, vr, e1, h⟩ := h
  subst e1
  cases r with
  | cons r rr =>
    rw [hs]
    refine assignInOrder_cons (Bf (h1 pins s σ H _ _ _ I r h) fun _ s1 ⟨σ1, H1, I1, q1⟩ => ?_)
    exact h2 pins s1 σ1 H1 _ _ Q I1 rr q1
def Vd (K : Frag) (n : Nat) (t : Nv) : TG := fun v σ H Q => ∃ a xs, v = .ref a ∧ Dt K H a xs ∧ xs.length = n ∧ t xs σ H Q
theorem cG {es : List Expr} {k : Nat} {t : Nv} {n : Nat} (hc : X.calm = true) (h : X5 X es t) (hn : (assignEach es X.env).length = n := by rfl) (hst : (assignEach es X.env).findIdx? (·.1) = none := by rfl) : PG X (.Tuple es k pos) (Vd X.K n t) := by
  intro pins s σ H v u Q I r hw
  obtain ⟨a, xs, e1, hq, hl, hw⟩ := hw
  subst e1
  cases r
  obtain ⟨its, rv, ht, hz⟩ := I.tuple hq
  refine assign_Tuple_tuple (I.ok.hd hc) ht (by simp [hn, ← hl, rv.length]) hst fun h' hx => ?_
  have I1 : Inv X pins σ H { s with heap := h' } := I.kept (t' := s.toks) fun b o e => hx b o (Nat.ne_of_lt (Heap.lt_size e)) e
  exact h pins _ σ H xs _ Q I1 (by simpa using rv) hw
def K9 (to ti : TE) (t : bD) : TG := fun v σ H Q => to σ H fun o H1 => ti σ H1 fun i H2 => t o i v H2 fun H3 => Q σ H3
theorem Yg {o i : Expr} {to ti : TE} {t : bD} (ho : PE X o to) (hi : PE X i ti) (hs : uN X t) (ha : ∀ v, assign (.Subscript o i pos) X.env v = (do
      let ov ← holding [v] (eval o X.env)
      let iv ← holding [v, ov] (eval i X.env)
      standAt pos
      holding [v, ov, iv] (setItem ov iv v)
      release [v, ov, iv] []) := by intro _; rfl) : PG X (.Subscript o i pos) (K9 to ti t) := by
  intro pins s σ H v u Q I r h
  rw [ha]
  refine wpAny_bind (wpAny_holding (Bf (ho pins s σ H _ I h) fun ov s1 ⟨x, H1, I1, r1, q1⟩ => ?_))
  refine wpAny_bind (wpAny_holding (Bf (hi pins s1 σ H1 _ I1 q1) fun iv s2 ⟨y, H2, I2, r2, q2⟩ => ?_))
  refine wpAny_bind (wpAny_standAt (wpAny_bind (wpAny_holding (Bf (hs pins s2 σ H2 x y v ov iv u _ I2 r1 r2 r q2) fun _ s3 ⟨H3, I3, q3⟩ => ?_))))
  exact wpAny_release ⟨σ, H3, I3, q3⟩
def Ff (te : TE) (g : TG) : TS := fun D σ H => te σ H fun x H1 => g x σ H1 D.nx
theorem Wt {tg e : Expr} {te : TE} {g : TG} (he : PE X e te) (hg : PG X tg g) (hs : swapsWithSole [tg] e pos.line X.env = pure false := by rfl) (hw : swappedStores [tg] e X.env = pure none := by rfl)
    (h1 : (assignEach [tg] X.env).map (·.2) = [assign tg X.env] := by rfl) : PS X (.Assign [tg] e pos) (Ff te g) := by
  intro pins s σ H D I h
  refine wpAny_Assign_stores (Bf (he pins s σ H _ I h) fun v s1 ⟨x, H1, I1, r1, q1⟩ => ?_) hs hw
  rw [h1]
  exact Bf (hg pins s1 σ H1 x v _ I1 r1 q1) fun _ s2 q => q
theorem cL {i : Nat} {x : Str} {e : Expr} {te : TE} {pos' : Pos} (hN : X.N.Nodup) (hi : X.N[i]? = some x) (hx : Loc X.env.scope x) (he : PE X e te) (hs : swapsWith e (some (.Name x pos')) pos.line X.env = pure false := by rfl) (hf : X.fn x = true ∨ X.env.scope.names.lookup x = some .local := by first | exact .inl rfl | exact .inr rfl | assumption) :
    PS X (.Assign [.Name x pos'] e pos) (Ff te (FN i)) := by
  intro pins s σ H D I h
  refine wpAny_Assign_Name (Bf (he pins s σ H _ I h) fun v s1 ⟨y, H1, I1, r1, q1⟩ => ?_) hs
  exact Zo I1 hN hi hx r1 (fun s2 I2 => ⟨_, H1, I2, q1⟩) hf
end
section
variable {X : Cx} {pos : Pos}
def Y6 (c : TT) (tb : TS) : TS := fun D σ H => ∃ W : Nat → St → Hp → Prop, (∃ m, W m σ H) ∧ ∀ m σ H, W m σ H →
  c σ H fun b H1 => if b = true then ∃ N : St → Hp → Prop, (∀ σ' H', N σ' H' → ∃ m', m' < m ∧ W m' σ' H') ∧ tb { D with nx := N, ct := N, bk := D.nx } σ H1 else D.nx σ H1
theorem AGH {c : Expr} {body : List Stmt} {tc : TT} {tb : TS} (hp : PassesOwn (model X.prog X.w) X.A X.env X.xe) (hc : PT X c tc) (hb : FZ X body tb) : PS X (.While c body [] pos) (Y6 tc tb) := by
  intro pins s σ H D I h
  obtain ⟨W, ⟨m0, w0⟩, turn⟩ := h
  refine wpAny_While (codeAny_whileLoop (fun n s' => ∃ σ' H', Inv X pins σ' H' s' ∧ W n σ' H') ?_ m0 ⟨σ, H, I, w0⟩)
  rintro n s1 ⟨σ1, H1, I1, w1⟩
  refine wpAny_passesOwn hp (Bf (hc pins s1 σ1 H1 _ I1 (turn n σ1 H1 w1)) fun b s2 ⟨H2, I2, q2⟩ => ?_)
  cases b with
  | true =>
    obtain ⟨N, hN, q2⟩ := q2
    rw [if_pos rfl]
    refine wpAny_passesOwn hp (Bf (hb pins s2 σ1 H2 _ I2 q2) fun f s3 q3 => ?_)
    cases f with
    | next =>
      obtain ⟨σ3, H3, I3, n3⟩ := q3
      obtain ⟨m', hm, w3⟩ := hN σ3 H3 n3
      exact ⟨m', hm, σ3, H3, I3, w3⟩
    | cont =>
      obtain ⟨σ3, H3, I3, n3⟩ := q3
      obtain ⟨m', hm, w3⟩ := hN σ3 H3 n3
      exact ⟨m', hm, σ3, H3, I3, w3⟩
    | brk => exact q3
    | ret v => exact q3
  | false =>
    rw [if_neg Bool.false_ne_true]
    exact wpAny_execs_nil ⟨σ1, H2, I2, q2⟩
end
structure It where
  go : Nat → Hp → Prop
  yld : Nat → Hp → V → Hp → Prop
  stop : Nat → Hp → Prop
def HX (X : Cx) (pins : List (Addr × Obj)) (H : Hp) (b : Addr) : Prop :=
  H b = none ∧ b ≠ X.env.locals ∧ b ∉ X.fs ∧ (b ∈ X.ex ∨ X.s₀.heap.objs.size ≤ b) ∧ (∀ x c, X.env.cells.lookup x = some c → c ≠ b) ∧ ∀ p ∈ X.pn ++ pins, p.1 ≠ b
theorem Inv.M5 {X : Cx} {pins : List (Addr × Obj)} {σ : St} {H H' : Hp} {s : Shared} {b : Addr} (I : Inv X pins σ H s) (hb : s.heap.objs.size ≤ b) (hn : H' b = none) : HX X pins H' b := by
  refine ⟨hn, Nat.ne_of_gt (Nat.lt_of_lt_of_le I.lt hb), I.uR hb, .inr (Nat.le_trans I.sz hb), fun x c e z => ?_, fun p hp z => ?_⟩
  · obtain ⟨v, q⟩ := I.cell x c e
    exact absurd (Nat.lt_of_lt_of_le q.lt (by rw [z]; exact hb)) (Nat.lt_irrefl _)
  · exact absurd (Nat.lt_of_lt_of_le (Heap.lt_size (I.pin p hp).1) (by rw [z]; exact hb)) (Nat.lt_irrefl _)
structure Turn (P : Program) (w : World) (K : Frag) (tg : Expr) (J : It) (fp : List Addr) (it : Addr) (tn : Nat → Heap → Prop) : Prop where
  mem : it ∈ fp
  obj : ∀ i h, tn i h → ∀ b ∈ fp, ∃ o, h.get? b = some o ∧ ∀ v, o.data ≠ .cell v
  keep : ∀ i h h', tn i h → (∀ b ∈ fp, ∀ o, h.get? b = some o → h'.get? b = some o) → tn i h'
  item : ∀ (X : Cx), X.prog = P → X.w = w → X.K = K → X.calm = true → ∀ (i : Nat) (pins : List (Addr × Obj)) (s : Shared) (σ : St) (H : Hp) (E : Value → Shared → Prop), Inv X pins σ H s → (∀ b ∈ fp, HX X pins H b) → tn i s.heap → J.go i H →
    wpAny (model P w) X.A (pyNext (.ref it)) (fun r s1 => ∃ u, r = some u ∧
      wpAny (model P w) X.A (letOwnedTupleGo tg (.ref it) u) (fun _ s2 => ∃ x H', Inv X pins σ H' s2 ∧ RelV x u ∧ J.yld i H x H' ∧ tn (i + 1) s2.heap ∧ ∀ b ∈ fp, H' b = none) E s1) E s
  done : ∀ (X : Cx), X.prog = P → X.w = w → X.K = K → X.calm = true → ∀ (i : Nat) (pins : List (Addr × Obj)) (s : Shared) (σ : St) (H : Hp) (E : Value → Shared → Prop), Inv X pins σ H s → (∀ b ∈ fp, HX X pins H b) → tn i s.heap → J.stop i H →
    wpAny (model P w) X.A (pyNext (.ref it)) (fun r s1 => r = none ∧ Inv X pins σ H s1) E s
  self : ∀ (A : Around) (i : Nat) (s : Shared) (Q : Value → Shared → Prop) (E : Value → Shared → Prop), tn i s.heap → Q (.ref it) s → wpAny (model P w) A (pyIter (.ref it)) Q E s
abbrev TI := St → Hp → (It → Hp → Prop) → Prop
def rH (X : Cx) (pins : List (Addr × Obj)) (σ : St) (tg : Expr) (R : It → Hp → Prop) (itv : Value) (s2 : Shared) : Prop :=
  ∃ (it : Addr) (fp : List Addr) (tn : Nat → Heap → Prop) (J : It) (H' : Hp), itv = .ref it ∧ Inv X pins σ H' s2 ∧ Turn X.prog X.w X.K tg J fp it tn ∧ tn 0 s2.heap ∧ (∀ b ∈ fp, HX X pins H' b) ∧ R J H'
def PI (X : Cx) (tg iter : Expr) (wi : TI) : Prop :=
  ∀ (pins : List (Addr × Obj)) (s : Shared) (σ : St) (H : Hp) (R : It → Hp → Prop), Inv X pins σ H s → wi σ H R →
    wpAny (model X.prog X.w) X.A (eval iter X.env) (fun v s1 => wpAny (model X.prog X.w) X.A (pyIter v) (rH X pins σ tg R) X.xe s1) X.xe s
theorem Wx {M : Model} {A : Around} {E : Value → Shared → Prop} {s : Shared} {tg : Expr} {it : Addr} {u : Value} {o : Obj} {n : String} {vs : Array Value} {Q : Unit → Shared → Prop} (ho : s.heap.get? it = some o) (hc : o.cls = .type n) (hd : o.data = .fields vs) (hn : ["enumerate", "zip", "dict_itemiterator", "dict_reverseitemiterator", "odict_iterator", "itertools.zip_longest", "itertools.pairwise"].contains n = false) (hQ : Q () s) : wpAny M A (letOwnedTupleGo tg (.ref it) u) Q E s := by
  unfold letOwnedTupleGo
  cases tg <;> first
    | exact wpAny_pure hQ
    | (cases u <;> first
        | exact wpAny_pure hQ
        | (refine wpAny_bind (wpAny_load ho ?_)
           rw [hc, hd]
           show wpAny M A (if (["enumerate", "zip", "dict_itemiterator", "dict_reverseitemiterator", "odict_iterator", "itertools.zip_longest", "itertools.pairwise"].contains n && vs[0]? == some (rawInt _)) = true then _ else _) Q E s
           rw [if_neg (by intro h; rw [hn, Bool.false_and] at h; cases h)]
           exact wpAny_pure hQ))
def eF (K : Frag) (a : Addr) : It :=
  ⟨fun i H => ∃ xs x, Bg K H a xs ∧ xs[i]? = some x, fun i H x H' => H' = H ∧ ∀ xs, Bg K H a xs → xs[i]? = some x, fun i H => ∃ xs, Bg K H a xs ∧ xs.length ≤ i⟩
def bO (K : Frag) (a : Addr) : It :=
  ⟨fun i H => ∃ xs x, Dt K H a xs ∧ xs[i]? = some x, fun i H x H' => H' = H ∧ ∀ xs, Dt K H a xs → xs[i]? = some x, fun i H => ∃ xs, Dt K H a xs ∧ xs.length ≤ i⟩
def X3 (lo : Int) (n : Nat) : It := ⟨fun i _ => i < n, fun i H x H' => H' = H ∧ x = .int (lo + i), fun i _ => n ≤ i⟩
theorem ADa {P : Program} {w : World} {K : Frag} {tg : Expr} (a it : Addr) : Turn P w K tg (eF K a) [it] it (fun i h => h.IsListIter it a i) where
  mem := by simp
  obj := fun i h st b hb => by
    have e : b = it := by simpa using hb
    subst e
    obtain ⟨o, e, c, d⟩ := st
    exact ⟨o, e, fun v z => by rw [d] at z; cases z⟩
  keep := fun i h h' st k => st.at fun o e => k it (by simp) o e
  item := by
    intro X hP hw hK hc i pins s σ H E I hf st hg
    subst hP hw hK
    obtain ⟨xs, x, hq, hx⟩ := hg
    obtain ⟨its, rv, p, hz⟩ := I.list hq
    obtain ⟨u, hu, ru⟩ := rv.get hx
    obtain ⟨f0, f1, f2, f3, f4, f5⟩ := hf it (by simp)
    refine wpAny_pyNext_list_item st p.isList (x := u) (by simpa using hu) fun h' st' sb => ?_
    have I1 : Inv X pins σ H { s with heap := h' } := I.turned (t' := s.toks) (fun b o hb e => (sb.2 b hb).trans e) f0 f1 f3 f4 f5
    obtain ⟨o, e, c, d⟩ := id st'
    exact ⟨u, rfl, Wx (s := { s with heap := h' }) e c d (by decide) ⟨x, H, I1, ru, ⟨rfl, fun ys hy => by rw [I.V7 hy hq]; exact hx⟩, st', fun b hb => (hf b hb).1⟩⟩
  done := by
    intro X hP hw hK hc i pins s σ H E I hf st hg
    subst hP hw hK
    obtain ⟨xs, hq, hx⟩ := hg
    obtain ⟨its, rv, p, hz⟩ := I.list hq
    obtain ⟨f0, f1, f2, f3, f4, f5⟩ := hf it (by simp)
    have hl := rv.length
    exact wpAny_pyNext_list_end (I.ok.hd hc) st p.isList (by simp; omega) fun h' eb => ⟨rfl, I.turned (t' := s.toks) (fun b o hb e => eb b o hb e) f0 f1 f3 f4 f5⟩
  self := fun _ _ _ _ _ st h => wpAny_pyIter_listiter st h
theorem ACP {P : Program} {w : World} {K : Frag} {tg : Expr} (a it : Addr) : Turn P w K tg (bO K a) [it] it (fun i h => h.IsTupleIter it a i) where
  mem := by simp
  obj := fun i h st b hb => by
    have e : b = it := by simpa using hb
    subst e
    obtain ⟨o, e, c, d⟩ := st
    exact ⟨o, e, fun v z => by rw [d] at z; cases z⟩
  keep := fun i h h' st k => st.at fun o e => k it (by simp) o e
  item := by
    intro X hP hw hK hc i pins s σ H E I hf st hg
    subst hP hw hK
    obtain ⟨xs, x, hq, hx⟩ := hg
    obtain ⟨its, rv, p, hz⟩ := I.tuple hq
    obtain ⟨u, hu, ru⟩ := rv.get hx
    obtain ⟨f0, f1, f2, f3, f4, f5⟩ := hf it (by simp)
    refine wpAny_pyNext_tuple_item st (show s.heap.IsTuple a its.toArray from p) (x := u) (by simpa using hu) fun h' st' sb => ?_
    have I1 : Inv X pins σ H { s with heap := h' } := I.turned (t' := s.toks) (fun b o hb e => (sb.2 b hb).trans e) f0 f1 f3 f4 f5
    obtain ⟨o, e, c, d⟩ := id st'
    exact ⟨u, rfl, Wx (s := { s with heap := h' }) e c d (by decide) ⟨x, H, I1, ru, ⟨rfl, fun ys hy => by rw [I.AJt hy hq]; exact hx⟩, st', fun b hb => (hf b hb).1⟩⟩
  done := by
    intro X hP hw hK hc i pins s σ H E I hf st hg
    subst hP hw hK
    obtain ⟨xs, hq, hx⟩ := hg
    obtain ⟨its, rv, p, hz⟩ := I.tuple hq
    obtain ⟨f0, f1, f2, f3, f4, f5⟩ := hf it (by simp)
    have hl := rv.length
    exact wpAny_pyNext_tuple_end (I.ok.hd hc) st (show s.heap.IsTuple a its.toArray from p) (by simp; omega) fun h' eb => ⟨rfl, I.turned (t' := s.toks) (fun b o hb e => eb b o hb e) f0 f1 f3 f4 f5⟩
  self := fun _ _ _ _ _ st h => wpAny_pyIter_tupleiter st h
theorem AJk {P : Program} {w : World} {K : Frag} {tg : Expr} (it : Addr) (lo : Int) (n : Nat) : Turn P w K tg (X3 lo n) [it] it (fun i h => IsRangeIter h it (lo + (i : Nat) * 1) ((n : Int) - (i : Nat)) 1) where
  mem := by simp
  obj := fun i h st b hb => by
    have e : b = it := by simpa using hb
    subst e
    exact ⟨_, st, fun v z => by
      have z' : Data.fields _ = Data.cell v := z
      cases z'⟩
  keep := fun i h h' st k => k it (by simp) _ st
  item := by
    intro X hP hw hK hc i pins s σ H E I hf st hg
    subst hP hw hK
    obtain ⟨f0, f1, f2, f3, f4, f5⟩ := hf it (by simp)
    have W := Walks.range (prog := X.prog) (w := X.w) (I.ok.hd hc) it lo 1 n
    refine W.item i s _ _ hg st fun v h' tk hv st' kk => ?_
    obtain ⟨t, rfl⟩ := hv
    have I1 : Inv X pins σ H { s with heap := h', toks := tk } := I.turned (fun b o hb e => kk b o (by simpa using hb) e) f0 f1 f3 f4 f5
    refine ⟨_, rfl, Wx (s := { s with heap := h', toks := tk }) (n := "range_iterator") st' rfl rfl (by decide) ⟨.int (lo + i), H, I1, ⟨t, ?_⟩, ⟨rfl, rfl⟩, st', fun b hb => (hf b hb).1⟩⟩
    rw [Int.mul_one]
  done := by
    intro X hP hw hK hc i pins s σ H E I hf st hg
    subst hP hw hK
    obtain ⟨f0, f1, f2, f3, f4, f5⟩ := hf it (by simp)
    exact wpAny_pyNext_range_end (I.ok.hd hc) st (by have : n ≤ i := hg; omega) fun h' eb => ⟨rfl, I.turned (t' := s.toks) (fun b o hb e => eb b o hb e) f0 f1 f3 f4 f5⟩
  self := fun _ _ _ _ _ st h => wpAny_pyIter_rangeiter st h
end L2
namespace L2
open PySem PySem.Spec PyProof.Rows
section
variable {X : Cx} {tg : Expr}
def nH (K : Frag) (tl : TE) : TI := fun σ H R => tl σ H fun x H1 => ∃ a, x = .ref a ∧ (∃ xs, Bg K H1 a xs) ∧ R (eF K a) H1
def xX (K : Frag) (tl : TE) : TI := fun σ H R => tl σ H fun x H1 => ∃ a, x = .ref a ∧ (∃ xs, Dt K H1 a xs) ∧ R (bO K a) H1
theorem ACY {l : Expr} {tl : TE} (hl : PE X l tl) : PI X tg l (nH X.K tl) := by
  intro pins s σ H R I h
  refine Bf (hl pins s σ H _ I h) fun v s1 ⟨x, H1, I1, r1, q1⟩ => ?_
  obtain ⟨a, e, ⟨xs, hq⟩, q⟩ := q1
  subst e
  cases r1
  obtain ⟨its, rv, p, hz⟩ := I1.list hq
  refine wpAny_pyIter_list p.isList ?_
  refine ⟨s1.heap.objs.size, [s1.heap.objs.size], _, _, H1, rfl, I1.kept (t' := s1.toks) fun b o e => Heap.get?_push_of_some _ e, ADa a _, ⟨_, Heap.get?_push_size _ rfl, rfl, rfl⟩, fun b hb => ?_, q⟩
  have e : b = s1.heap.objs.size := by simpa using hb
  subst e
  exact I1.M5 (Nat.le_refl _) (I1.hok.fresh (Nat.le_refl _))
theorem AMD {l : Expr} {tl : TE} (hl : PE X l tl) : PI X tg l (xX X.K tl) := by
  intro pins s σ H R I h
  refine Bf (hl pins s σ H _ I h) fun v s1 ⟨x, H1, I1, r1, q1⟩ => ?_
  obtain ⟨a, e, ⟨xs, hq⟩, q⟩ := q1
  subst e
  cases r1
  obtain ⟨its, rv, p, hz⟩ := I1.tuple hq
  refine wpAny_pyIter_tuple (show s1.heap.IsTuple a its.toArray from p) ?_
  refine ⟨s1.heap.objs.size, [s1.heap.objs.size], _, _, H1, rfl, I1.kept (t' := s1.toks) fun b o e => Heap.get?_push_of_some _ e, ACP a _, ⟨_, Heap.get?_push_size _ rfl, rfl, rfl⟩, fun b hb => ?_, q⟩
  have e : b = s1.heap.objs.size := by simpa using hb
  subst e
  exact I1.M5 (Nat.le_refl _) (I1.hok.fresh (Nat.le_refl _))
theorem ACr {pins : List (Addr × Obj)} {σ : St} {H : Hp} {s : Shared} {R : It → Hp → Prop} {E : Value → Shared → Prop} {lo hi : Int} {t u v : Tok} {tk : Nat} (I : Inv X pins σ H s) (h1 : -(2 ^ 62) ≤ lo) (h2 : lo < 2 ^ 62) (h3 : -(2 ^ 62) ≤ hi) (h4 : hi < 2 ^ 62) (q : R (X3 lo (hi - lo).toNat) H) : wpAny (model X.prog X.w) X.A (pyIter (.ref s.heap.objs.size)) (rH X pins σ tg R) E { s with heap := s.heap.push { cls := .type "range", data := .fields #[.int lo t, .int hi u, .int 1 v] }, toks := tk } := by
  refine wpAny_pyIter_range (IsRange.new ..) (small_one h1 h2 h3 h4) ?_
  have I1 : Inv X pins σ H { s with heap := s.heap.push { cls := .type "range", data := .fields #[.int lo t, .int hi u, .int 1 v] }, toks := tk } := I.kept fun b o e => Heap.get?_push_of_some _ e
  refine ⟨(s.heap.push { cls := .type "range", data := .fields #[.int lo t, .int hi u, .int 1 v] }).objs.size, [(s.heap.push { cls := .type "range", data := .fields #[.int lo t, .int hi u, .int 1 v] }).objs.size], _, _, H, rfl,
    I1.kept (t' := tk) fun b o e => Heap.get?_push_of_some _ e, AJk _ lo (hi - lo).toNat, ?_, fun b hb => ?_, q⟩
  · have e1 : lo + ((0 : Nat) : Int) * 1 = lo := by simp
    have e2 : (((hi - lo).toNat : Nat) : Int) - ((0 : Nat) : Int) = Builtin.Range.rangeSize lo hi 1 := by rw [rangeSize_one]; split <;> omega
    show IsRangeIter _ _ (lo + ((0 : Nat) : Int) * 1) ((((hi - lo).toNat : Nat) : Int) - ((0 : Nat) : Int)) 1
    rw [e1, e2]
    exact Heap.get?_push_size _ rfl
  · have e : b = (s.heap.push { cls := .type "range", data := .fields #[.int lo t, .int hi u, .int 1 v] }).objs.size := by simpa using hb
    subst e
    exact I1.M5 (Nat.le_refl _) (I1.hok.fresh (Nat.le_refl _))
def fZ (ta : TA) : TI := fun σ H R => ta σ H fun vs H1 => ∃ j : Int, vs = [.int j] ∧ -(2 ^ 62) ≤ j ∧ j < 2 ^ 62 ∧ R (X3 0 j.toNat) H1
theorem wM {a : Expr} {ta : TA} {p pos : Pos} (hg : Gl X "range") (hm : X.mg "range" = none) (ha : PA X [a] ta) (hs : starEach [a] X.env = [(false, eval a X.env)] := by rfl) : PI X tg (.Call (.Name "range" p) [a] [] pos) (fZ ta) := by
  intro pins s σ H R I h
  refine Call_ (PJ I hg hm boot_range (PyProof.Rows.callWith_type1 (Bf (ha pos pins s σ H _ I h) fun us s1 ⟨vs, H1, I1, r1, q1⟩ => ?_) hs rfl))
  obtain ⟨j, e, q1, q2, q⟩ := q1
  subst e
  cases r1 with
  | cons r rr =>
    cases rr
    obtain ⟨t, rfl⟩ := r
    exact call_range_1 (ACr I1 (by omega) (by omega) q1 q2 (by simpa using q))
def YJ (wi : TI) (g : TG) (tb : TS) : TS := fun D σ H => wi σ H fun J H1 => ∃ W : Nat → Nat → St → Hp → Prop, (∃ m, W 0 m σ H1) ∧ ∀ i m σ H, W i m σ H →
  (J.stop i H ∧ D.nx σ H) ∨ (J.go i H ∧ ∃ N : St → Hp → Prop, (∀ σ' H', N σ' H' → ∃ m', m' < m ∧ W (i + 1) m' σ' H') ∧ ∀ x H', J.yld i H x H' → g x σ H' fun σ2 H2 => tb { D with nx := N, ct := N, bk := D.nx } σ2 H2)
def Vl (fp : List Addr) (h : Heap) : List (Addr × Obj) := fp.filterMap fun b => (h.get? b).map fun o => (b, o)
theorem WW {fp : List Addr} {h : Heap} {b : Addr} {o : Obj} (hb : b ∈ fp) (e : h.get? b = some o) : (b, o) ∈ Vl fp h := List.mem_filterMap.mpr ⟨b, hb, by rw [e]; rfl⟩
theorem AMw {fp : List Addr} {h : Heap} {p : Addr × Obj} (hp : p ∈ Vl fp h) : p.1 ∈ fp ∧ h.get? p.1 = some p.2 := by
  obtain ⟨b, hb, e⟩ := List.mem_filterMap.mp hp
  cases q : h.get? b with
  | none => rw [q] at e; cases e
  | some o =>
    rw [q] at e
    have e' : (b, o) = p := Option.some.inj e
    subst e'
    exact ⟨hb, q⟩
theorem Inv.pinned {pins : List (Addr × Obj)} {σ : St} {H : Hp} {s : Shared} {fp : List Addr} (I : Inv X pins σ H s) (hf : ∀ b ∈ fp, HX X pins H b) (ho : ∀ b ∈ fp, ∃ o, s.heap.get? b = some o ∧ ∀ v, o.data ≠ .cell v) : Inv X (pins ++ Vl fp s.heap) σ H s :=
  I.ZK fun p hp => (List.mem_append.mp hp).elim (fun z => I.pin p (Bj z)) fun z => by
    obtain ⟨hb, e⟩ := AMw z
    obtain ⟨f0, f1, f2, _⟩ := hf p.1 hb
    obtain ⟨o, e', d⟩ := ho p.1 hb
    rw [e] at e'; cases e'
    exact ⟨e, f0, f1, f2, d⟩
theorem Inv.V0 {pins pl : List (Addr × Obj)} {σ : St} {H : Hp} {s : Shared} (I : Inv X (pins ++ pl) σ H s) : Inv X pins σ H s := I.ZK fun p hp => I.pin p (Bj (Cy hp))
theorem qN {iter : Expr} {body : List Stmt} {wi : TI} {g : TG} {tb : TS} {pos : Pos} (hp : PassesOwn (model X.prog X.w) X.A X.env X.xe) (hc : X.calm = true) (hi : PI X tg iter wi) (hg : PG X tg g) (hb : FZ X body tb) (hs : ∀ x, foldedSetIterable iter X.env x = pure x := by intro _; rfl) : PS X (.For tg iter body [] pos) (YJ wi g tb) := by
  intro pins s σ H D I h
  refine wpAny_For (Bf (hi pins s σ H _ I h) fun v s1 h1 => Bf h1 fun itv s2 h2 => ?_) hs
  obtain ⟨it, fp, tn, J, H2, e, I2, T, st2, f2, W, ⟨m0, w0⟩, turn⟩ := h2
  subst e
  have stat : ∀ {H' : Hp}, (∀ b ∈ fp, H' b = none) → ∀ b ∈ fp, HX X pins H' b := fun hn b hb => ⟨hn b hb, (f2 b hb).2⟩
  refine codeAny_forLoop_any (fun n s' => ∃ i σ' H', Inv X pins σ' H' s' ∧ tn i s'.heap ∧ (∀ b ∈ fp, H' b = none) ∧ W i n σ' H') ?_ m0 ⟨0, σ, H2, I2, st2, fun b hb => (f2 b hb).1, w0⟩
  rintro n s3 ⟨i, σ3, H3, I3, st3, fr3, w3⟩
  rcases turn i n σ3 H3 w3 with ⟨stop, qn⟩ | ⟨go, N, hN, step⟩
  · refine wpAny_passesOwn hp (Bf (T.done X rfl rfl rfl hc i pins s3 σ3 H3 X.xe I3 (stat fr3) st3 stop) fun r s4 ⟨hr, I4⟩ => ?_)
    subst hr
    exact wpAny_execs_nil ⟨σ3, H3, I4, qn⟩
  · refine wpAny_passesOwn hp (Bf (T.item X rfl rfl rfl hc i pins s3 σ3 H3 X.xe I3 (stat fr3) st3 go) fun r s4 ⟨u, hr, h4⟩ => ?_)
    subst hr
    refine wpAny_passesOwn hp (Bf h4 fun _ s5 ⟨x, H5, I5, r5, y5, st5, fr5⟩ => ?_)
    have I5' := I5.pinned (stat fr5) (T.obj _ _ st5)
    refine wpAny_passesOwn hp (Bf (hg _ s5 σ3 H5 x u _ I5' r5 (step x H5 y5)) fun _ s6 ⟨σ6, H6, I6, q6⟩ => ?_)
    refine wpAny_passesOwn hp (Bf (hb _ s6 σ6 H6 _ I6 q6) fun f s7 q7 => ?_)
    have again : ∀ {σ7 : St} {H7 : Hp}, Inv X (pins ++ Vl fp s5.heap) σ7 H7 s7 → N σ7 H7 → ∃ m, m < n ∧ ∃ i σ' H', Inv X pins σ' H' s7 ∧ tn i s7.heap ∧ (∀ b ∈ fp, H' b = none) ∧ W i m σ' H' := fun {σ7 H7} I7 n7 => by
      obtain ⟨m', hm, w7⟩ := hN σ7 H7 n7
      refine ⟨m', hm, i + 1, σ7, H7, I7.V0, T.keep _ _ _ st5 fun b hb o e => (I7.pin (b, o) (Bj (Bj (WW hb e)))).1, fun b hb => ?_, w7⟩
      obtain ⟨o, e, d⟩ := T.obj _ _ st5 b hb
      exact (I7.pin (b, o) (Bj (Bj (WW hb e)))).2.1
    cases f with
    | next => obtain ⟨σ7, H7, I7, n7⟩ := q7; exact again I7 n7
    | cont => obtain ⟨σ7, H7, I7, n7⟩ := q7; exact again I7 n7
    | brk => obtain ⟨σ7, H7, I7, q7⟩ := q7; exact ⟨σ7, H7, I7.V0, q7⟩
    | ret v => obtain ⟨x7, σ7, H7, I7, r7, q7⟩ := q7; exact ⟨x7, σ7, H7, I7.V0, r7, q7⟩
end
end L2
namespace L2
open PySem PySem.Spec PyProof.Rows
abbrev R2 := V → V → Hp → VK → Prop
def El (X : Cx) (f : Value → Value → Sem Value) (r : R2) : Prop :=
  ∀ (pins : List (Addr × Obj)) (s : Shared) (σ : St) (H : Hp) (x y : V) (v u : Value) (Q : VK), Inv X pins σ H s → RelV x v → RelV y u → r x y H Q →
    wpAny (model X.prog X.w) X.A (f v u) (EP X pins σ Q) X.xe s
def fD (X : Cx) (f : Value → Sem Value) (r : V → Hp → VK → Prop) : Prop :=
  ∀ (pins : List (Addr × Obj)) (s : Shared) (σ : St) (H : Hp) (x : V) (v : Value) (Q : VK), Inv X pins σ H s → RelV x v → r x H Q →
    wpAny (model X.prog X.w) X.A (f v) (EP X pins σ Q) X.xe s
def Gz (X : Cx) (f : Value) (r : List V → Hp → VK → Prop) : Prop :=
  ∀ (pins : List (Addr × Obj)) (s : Shared) (σ : St) (H : Hp) (xs : List V) (us : List Value) (Q : VK), Inv X pins σ H s → Vals xs us → r xs H Q →
    wpAny (model X.prog X.w) X.A (call f us) (EP X pins σ Q) X.xe s
def HB (r : R2) (ta tb : TE) : TE := fun σ H Q => ta σ H fun x H1 => tb σ H1 fun y H2 => r x y H2 Q
def iC (r : V → Hp → VK → Prop) (ta : TE) : TE := fun σ H Q => ta σ H fun x H1 => r x H1 Q
def rI (C : Int → Int → Prop) (g : Int → Int → V) : R2 := fun x y H Q => ∃ i j, x = .int i ∧ y = .int j ∧ C i j ∧ Q (g i j) H
def HD (g : Int → Int → V) : R2 := fun x y H Q => ∃ i j, x = .int i ∧ y = .int j ∧ Q (g i j) H
def rU (g : Int → V) : V → Hp → VK → Prop := fun x H Q => ∃ i, x = .int i ∧ Q (g i) H
section
variable {X : Cx} {a b c : Expr} {ta tb tc : TE} {pos : Pos}
theorem bM (ha : PE X a ta) (hb : PE X b tb) {pins : List (Addr × Obj)} {s : Shared} {σ : St} {H : Hp} {R : V → V → Hp → Prop} (I : Inv X pins σ H s) (h : ta σ H fun x H1 => tb σ H1 fun y H2 => R x y H2) {Q : Value → Shared → Prop} {f : Value → Value → Sem Value} (hf : ∀ v u s2 x y H2, Inv X pins σ H2 s2 → RelV x v → RelV y u → R x y H2 → wpAny (model X.prog X.w) X.A (f v u) Q X.xe s2) :
    wpAny (model X.prog X.w) X.A (eval a X.env) (fun v s₁ => wpAny (model X.prog X.w) X.A (eval b X.env) (fun u s₂ => wpAny (model X.prog X.w) X.A (f v u) Q X.xe s₂) X.xe s₁) X.xe s := by
  refine Bf (ha pins s σ H _ I h) fun v s1 ⟨x, H1, I1, r1, q1⟩ => ?_
  refine Bf (hb pins s1 σ H1 _ I1 q1) fun u s2 ⟨y, H2, I2, r2, q2⟩ => ?_
  exact hf v u s2 x y H2 I2 r1 r2 q2
theorem pI {op : Operator} {r : R2} (ho : El X (binaryOp op) r) (ha : PE X a ta) (hb : PE X b tb) : PE X (.BinOp a op b pos) (HB r ta tb) := by
  intro pins s σ H Q I h
  exact wpAny_BinOp (bM ha hb I h fun v u s2 x y H2 I2 rx ry q => ho pins s2 σ H2 x y v u Q I2 rx ry q)
theorem AGR {op : UnaryOp} {r : V → Hp → VK → Prop} (ho : fD X (unaryOp op) r) (ha : PE X a ta) : PE X (.UnaryOp op a pos) (iC r ta) := by
  intro pins s σ H Q I h
  exact UnaryOp_ (Bf (ha pins s σ H _ I h) fun v s1 ⟨x, H1, I1, r1, q1⟩ => ho pins s1 σ H1 x v Q I1 r1 q1)
theorem W7 {f : Value → Value → Sem Value} {C : Int → Int → Prop} {g : Int → Int → Int} (rule : ∀ (i j : Int) (t u : Tok) (s : Shared) (Q : Value → Shared → Prop) (E : Value → Shared → Prop), C i j → Q (.int (g i j) s.toks) { s with toks := s.toks + 1 } → wpAny (model X.prog X.w) X.A (f (.int i t) (.int j u)) Q E s) :
    El X f (rI C fun i j => .int (g i j)) := by
  intro pins s σ H x y v u Q I rx ry h
  obtain ⟨i, j, rfl, rfl, hc, q⟩ := h
  obtain ⟨t, rfl⟩ := rx
  obtain ⟨t', rfl⟩ := ry
  exact rule i j t t' s _ _ hc ⟨.int (g i j), H, I.tok _, ⟨_, rfl⟩, q⟩
theorem qC {f : Value → Value → Sem Value} {g : Int → Int → Int} (rule : ∀ (i j : Int) (t u : Tok) (s : Shared) (Q : Value → Shared → Prop) (E : Value → Shared → Prop), Q (.int (g i j) s.toks) { s with toks := s.toks + 1 } → wpAny (model X.prog X.w) X.A (f (.int i t) (.int j u)) Q E s) :
    El X f (HD fun i j => .int (g i j)) := by
  intro pins s σ H x y v u Q I rx ry h
  obtain ⟨i, j, rfl, rfl, q⟩ := h
  obtain ⟨t, rfl⟩ := rx
  obtain ⟨t', rfl⟩ := ry
  exact rule i j t t' s _ _ ⟨.int (g i j), H, I.tok _, ⟨_, rfl⟩, q⟩
theorem Xf {f : Value → Value → Sem Value} {g : Int → Int → Bool} (rule : ∀ (i j : Int) (t u : Tok) (s : Shared) (Q : Value → Shared → Prop) (E : Value → Shared → Prop), Q (.bool (g i j)) s → wpAny (model X.prog X.w) X.A (f (.int i t) (.int j u)) Q E s) :
    El X f (HD fun i j => .bl (g i j)) := by
  intro pins s σ H x y v u Q I rx ry h
  obtain ⟨i, j, rfl, rfl, q⟩ := h
  obtain ⟨t, rfl⟩ := rx
  obtain ⟨t', rfl⟩ := ry
  exact rule i j t t' s _ _ ⟨.bl (g i j), H, I, rfl, q⟩
def rD (i j : Int) : Prop := 0 ≤ j ∧ j ≤ 1000000 ∧ i.natAbs < 2 ^ 64
def Wd (i j : Int) : Prop := (-(2 ^ 64) < i ∧ i < 2 ^ 64) ∨ (-(2 ^ 64) < j ∧ j < 2 ^ 64)
theorem Wd.ok {i j : Int} (h : Wd i j) : IntMulOk i j := by
  rcases h with ⟨h1, h2⟩ | ⟨h1, h2⟩
  · exact .of_left (intBits_le_64 h1 h2)
  · exact .of_right (intBits_le_64 h1 h2)
theorem AON : El X (binaryOp .Add) (HD fun i j => .int (i + j)) := qC fun _ _ _ _ _ _ _ q => add_int q
theorem AMC : El X (binaryOp .Sub) (HD fun i j => .int (i - j)) := qC fun _ _ _ _ _ _ _ q => sub_int q
theorem AIZ : El X (binaryOp .Mult) (rI Wd fun i j => .int (i * j)) := W7 fun _ _ _ _ _ _ _ hc q => mul_int q hc.ok
theorem AHZ : El X (binaryOp .Mod) (rI (fun _ j => 0 < j) fun i j => .int (i % j)) := W7 fun i j _ _ _ _ _ hc q => by
  have h1 : (0 : Int) < j := hc
  exact mod_int' (by omega) (by rw [Int.fmod_eq_emod_of_nonneg i (by omega)]; exact q)
theorem AEW : El X (binaryOp .Pow) (rI rD fun i j => .int (i ^ j.toNat)) := W7 fun _ _ _ _ _ _ _ hc q => pow_int_small hc.1 hc.2.1 hc.2.2 q
theorem unI {f : Value → Sem Value} {g : Int → Int} (rule : ∀ (i : Int) (t : Tok) (s : Shared) (Q : Value → Shared → Prop) (E : Value → Shared → Prop), Q (.int (g i) s.toks) { s with toks := s.toks + 1 } → wpAny (model X.prog X.w) X.A (f (.int i t)) Q E s) :
    fD X f (rU fun i => .int (g i)) := by
  intro pins s σ H x v Q I rx h
  obtain ⟨i, rfl, q⟩ := h
  obtain ⟨t, rfl⟩ := rx
  exact rule i t s _ _ ⟨.int (g i), H, I.tok _, ⟨_, rfl⟩, q⟩
theorem AMx : fD X (unaryOp .USub) (rU fun i => .int (-i)) := unI fun _ _ _ _ _ q => neg_int q
end
section
variable {X : Cx} {a b c : Expr} {ta tb tc : TE} {pos : Pos}
theorem AIT {pins : List (Addr × Obj)} {σ : St} {H : Hp} {s : Shared} {Q : VK} {k k' : Bool} (I : Inv X pins σ H s) (q : Q (.bl k) H) (e : k = k') : EP X pins σ Q (.bool k') s := by
  subst e
  exact ⟨.bl k, H, I, rfl, q⟩
theorem AG1 : El X (compareOp .Lt) (HD fun i j => .bl (decide (i < j))) := Xf fun _ _ _ _ _ _ _ q => lt_int q
theorem ANy : El X (compareOp .LtE) (HD fun i j => .bl (decide (i ≤ j))) := Xf fun _ _ _ _ _ _ _ q => le_int q
theorem ALj : El X (compareOp .Gt) (HD fun i j => .bl (decide (j < i))) := Xf fun _ _ _ _ _ _ _ q => gt_int q
theorem ABs : El X (compareOp .GtE) (HD fun i j => .bl (decide (j ≤ i))) := Xf fun _ _ _ _ _ _ _ q => ge_int q
theorem AL7 : El X (compareOp .Is) (fun x y H Q => y = .non ∧ Q (.bl (decide (x = .non))) H) := by
  intro pins s σ H x y v u Q I rx ry h
  obtain ⟨rfl, q⟩ := h
  cases ry
  refine is_none_gen (AIT I q ?_)
  cases x <;> first
    | (cases rx; rfl)
    | (obtain ⟨t, rfl⟩ := rx; rfl)
theorem CW (b : Expr) {op : CmpOp} (h : op ≠ .In := by decide) (h2 : op ≠ .NotIn := by decide) : behindInMarks op b = false := by
  have e1 : (op == CmpOp.In) = false := by cases op <;> first | rfl | exact absurd rfl h
  have e2 : (op == CmpOp.NotIn) = false := by cases op <;> first | rfl | exact absurd rfl h2
  cases b <;> simp [behindInMarks, e1, e2]
theorem AG6 {op : CmpOp} {r : R2} (ho : El X (compareOp op) r) (ha : PE X a ta) (hb : PE X b tb) (hm : behindInMarks op b = false) : PE X (.Compare a [op] [b] pos) (HB r ta tb) := by
  intro pins s σ H Q I h
  exact wpAny_Compare1 (bM ha hb I h fun v u s2 x y H2 I2 rx ry q => ho pins s2 σ H2 x y v u Q I2 rx ry q) hm
def Tc (t : TE) : TT := fun σ H Q => t σ H fun x H' => ∃ k, x = .bl k ∧ Q k H'
theorem AFR {op : CmpOp} {r : R2} (ho : El X (compareOp op) r) (ha : PE X a ta) (hb : PE X b tb) (hm : behindInMarks op b = false) : PT X (.Compare a [op] [b] pos) (Tc (HB r ta tb)) := by
  intro pins s σ H Q I h
  refine wpAny_isTrue_Compare1 (Bf (ha pins s σ H _ I h) fun v s1 ⟨x, H1, I1, r1, q1⟩ => Bf (hb pins s1 σ H1 _ I1 q1) fun u s2 ⟨y, H2, I2, r2, q2⟩ =>
    Bf (ho pins s2 σ H2 x y v u _ I2 r1 r2 q2) fun c s3 ⟨z, H3, I3, r3, k, e, q3⟩ => ?_) hm
  subst e
  cases r3
  exact wpAny_truthy_bool ⟨H3, I3, q3⟩
def VM (r r' : R2) (ta tb tc : TE) : TE := fun σ H Q => ta σ H fun x H1 => tb σ H1 fun y H2 => r x y H2 fun z H3 => ∃ k, z = .bl k ∧
  (if k = true then tc σ H3 fun w' H4 => r' y w' H4 Q else Q (.bl false) H3)
theorem AJK {op op' : CmpOp} {r r' : R2} (ho : El X (compareOp op) r) (ho' : El X (compareOp op') r') (ha : PE X a ta) (hb : PE X b tb) (hc : PE X c tc) (hm : lastMarks [op, op'] [b, c] = false := by with_unfolding_all rfl) : PE X (.Compare a [op, op'] [b, c] pos) (VM r r' ta tb tc) := by
  intro pins s σ H Q I h
  refine Compare_chain (Bf (ha pins s σ H _ I h) fun v s1 ⟨x, H1, I1, r1, q1⟩ => chain_link (Bf (hb pins s1 σ H1 _ I1 q1) fun u s2 ⟨y, H2, I2, r2, q2⟩ =>
    Bf (ho pins s2 σ H2 x y v u _ I2 r1 r2 q2) fun d s3 ⟨z, H3, I3, r3, k, e, q3⟩ => ?_)) hm
  subst e
  cases r3
  refine wpAny_truthy_bool ?_
  cases k with
  | false => exact ite_ff ⟨.bl false, H3, I3, rfl, q3⟩
  | true => exact ite_tt (chain_last (Bf (hc pins s3 σ H3 _ I3 q3) fun w' s4 ⟨z', H4, I4, r4, q4⟩ => ho' pins s4 σ H4 y z' u w' Q I4 r2 r4 q4))
theorem AH6 {op op' : CmpOp} {r r' : R2} (ho : El X (compareOp op) r) (ho' : El X (compareOp op') r') (ha : PE X a ta) (hb : PE X b tb) (hc : PE X c tc) (hm : lastMarks [op, op'] [b, c] = false := by with_unfolding_all rfl) : PT X (.Compare a [op, op'] [b, c] pos) (Tc (VM r r' ta tb tc)) := by
  intro pins s σ H Q I h
  refine isTrue_chain (Bf (ha pins s σ H _ I h) fun v s1 ⟨x, H1, I1, r1, q1⟩ => test_link (Bf (hb pins s1 σ H1 _ I1 q1) fun u s2 ⟨y, H2, I2, r2, q2⟩ =>
    Bf (ho pins s2 σ H2 x y v u _ I2 r1 r2 q2) fun d s3 ⟨z, H3, I3, r3, k, e, q3⟩ => ?_)) hm
  subst e
  cases r3
  refine wpAny_truthy_bool ?_
  cases k with
  | false =>
    obtain ⟨k', e', q'⟩ := q3
    cases e'
    exact ite_ff ⟨H3, I3, q'⟩
  | true =>
    refine ite_tt (test_last (Bf (hc pins s3 σ H3 _ I3 q3) fun w' s4 ⟨z', H4, I4, r4, q4⟩ => Bf (ho' pins s4 σ H4 y z' u w' _ I4 r2 r4 q4) fun d' s5 ⟨z2, H5, I5, r5, k2, e2, q5⟩ => ?_))
    subst e2
    cases r5
    exact wpAny_truthy_bool ⟨H5, I5, q5⟩
theorem Vj : (sizeLine : Nat) < 2 ^ 63 := by rw [sizeLine_eq]; decide
theorem vals1 {x : V} {us : List Value} (r : Vals [x] us) : ∃ u, us = [u] ∧ RelV x u := by
  cases r with
  | cons r1 r2 => cases r2; exact ⟨_, rfl, r1⟩
theorem vals2 {x y : V} {us : List Value} (r : Vals [x, y] us) : ∃ u w', us = [u, w'] ∧ RelV x u ∧ RelV y w' := by
  cases r with
  | cons r1 r2 =>
    cases r2 with
    | cons r3 r4 => cases r4; exact ⟨_, _, rfl, r1, r3⟩
theorem ANR (hc : X.calm = true) : Gz X (.builtin "max") (fun xs H Q => ∃ i j, xs = [.int i, .int j] ∧ Q (.int (if j > i then j else i)) H) := by
  intro pins s σ H xs us Q I r h
  obtain ⟨i, j, rfl, q⟩ := h
  obtain ⟨u, w', rfl, ⟨t, rfl⟩, ⟨t', rfl⟩⟩ := vals2 r
  refine max_two_ints (I.ok.hd hc) fun h' tk k => ⟨_, H, I.kept k, ?_, q⟩
  by_cases hj : j > i
  · rw [if_pos hj, if_pos hj]; exact ⟨_, rfl⟩
  · rw [if_neg hj, if_neg hj]; exact ⟨_, rfl⟩
theorem AG8 : Gz X (.type "int") (fun xs H Q => (∃ i, xs = [.int i] ∧ Q (.int i) H) ∨ ∃ k, xs = [.bl k] ∧ Q (.int (if k then 1 else 0)) H) := by
  intro pins s σ H xs us Q I r h
  rcases h with ⟨i, rfl, q⟩ | ⟨k, rfl, q⟩
  · obtain ⟨u, rfl, t, rfl⟩ := vals1 r
    exact call_int_int ⟨.int i, H, I, ⟨_, rfl⟩, q⟩
  · obtain ⟨u, rfl, r1⟩ := vals1 r
    cases r1
    exact call_int_bool ⟨.int (if k then 1 else 0), H, I.tok _, ⟨_, rfl⟩, q⟩
end
end L2
namespace L2
open PySem PySem.Spec PyProof.Rows
structure NQ (h : Heap) (x dx C : Addr) (mA : Str → Option Value) : Prop where
  obj : h.get? x = some (PySem.W.instObj C dx)
  ns : h.Ns1 dx mA
  ne : dx ≠ x
theorem AOb {h : Heap} {dx : Addr} {mA : Str → Option Value} (n : h.Ns1 dx mA) : ∃ od, h.get? dx = some od ∧ ∀ name, PySem.W.lookIn name od = some (mA name) := by
  obtain ⟨o, es, ep, ho, hd, hk, _, hm⟩ := n
  refine ⟨o, ho, fun name => ?_⟩
  have e := hm name
  unfold nsFind findBy at e
  rw [← Array.find?_toList] at e
  unfold PySem.W.lookIn
  rw [hd]
  dsimp only
  split
  · rename_i y q
    rw [q] at e
    exact congrArg some e
  · rename_i q
    rw [q] at e
    have a : es.toList.any (·.refKey) = false := by
      rw [List.any_eq_false]
      intro y hy
      obtain ⟨z, t, hkey⟩ := hk y (Array.mem_toList_iff.mp hy)
      simp [DictEntry.refKey, hkey]
    have a' : ¬ es.toList.any (·.refKey) = true := by rw [a]; exact Bool.false_ne_true
    rw [if_neg a']
    exact congrArg some e
theorem NQ.look {h : Heap} {x dx C : Addr} {mA : Str → Option Value} (I : NQ h x dx C mA) : ∃ od, PySem.W.InstAt h x (PySem.W.instObj C dx) C (some od) ∧ ∀ name, PySem.W.lookIn name od = some (mA name) :=
  let ⟨od, ho, hl⟩ := AOb I.ns
  ⟨od, ⟨I.obj, rfl, rfl, ho⟩, hl⟩
section
variable {prog : Program} {w : World} {A : Around} {E : Value → Shared → Prop} {s : Shared} {K : Frag} {x dx C f : Addr} {mA : Str → Option Value} {name : Str} {v : Value}
theorem get_map {expr : Bool} {Q : Value → Shared → Prop} (X : K.In s.heap) (I : NQ s.heap x dx C mA) (hg : PySem.W.plainGet K C name = true) (hh : PySem.W.hasDictIn K C = true) (ha : findIn K (.ref C) name = some none) (hv : mA name = some v) (hv' : PySem.W.handedIn v = true) (h : Q v { s with toks := s.toks + 1 }) :
    wpAny (model prog w) A (getAttr (.ref x) name expr) Q E s := by
  obtain ⟨od, J, hl⟩ := I.look
  exact PySem.W.get_value X J (PySem.W.plainGet_of hg).1 (PySem.W.findObj_own hh ha rfl (by rw [hl, hv])) hv' h
theorem ANs {pl : Sem Bool} {Q : Value × List Value → Shared → Prop} (X : K.In s.heap) (I : NQ s.heap x dx C mA) (hg : PySem.W.plainGet K C name = true) (hf : findIn K (.ref C) name = some (some (.ref f))) (ht : PySem.W.isFn K (.ref f) = true) (hv : mA name = none) (h : Q (.ref f, [.ref x]) s) :
    wpAny (model prog w) A (getMethod (.ref x) name pl) Q E s := by
  obtain ⟨od, J, hl⟩ := I.look
  exact PySem.W.method_fn X J (PySem.W.plainGet_of hg).1 (PySem.W.plainGet_of hg).2 hf (beq_iff_eq.mp ht) (by show (PySem.W.lookIn name od).map (·.isSome) = some false; rw [hl, hv]; rfl) h
theorem AIY {ns : List Str} {Q : Unit → Shared → Prop} (X : K.In s.heap) (I : NQ s.heap x dx C mA) (hs : findIn K (.ref C) "__setattr__" = some (some (.builtin "object.__setattr__"))) (hp : PySem.W.plainOver K C = true) (ht : PySem.W.takerIn K C name = some none) (hh : PySem.W.hasDictIn K C = true) (hw : PySem.Within mA ns) (hsz : ns.length ≤ sizeLine) (h : ∀ h', NQ h' x dx C (fun y => if y = name then some v else mA y) → Heap.SameBut dx s.heap h' → Q () { s with heap := h', toks := s.toks + 2 }) :
    wpAny (model prog w) A (setAttr (.ref x) name v) Q E s := by
  obtain ⟨od, J, hl⟩ := I.look
  refine PySem.W.set_plain X J hs (PySem.W.osa_open (s := { s with toks := s.toks + 1 }) (r := none) X J hp ht fun b => ?_)
  obtain ⟨cd, hc, hd'⟩ := PySem.W.any_some hh
  have hx : s.heap.get? x = some ⟨.ref C, some dx, .plain, #[]⟩ := I.obj
  refine wpAny_bind (wpAny_pure (wpAny_bind (wpAny_bind (wpAny_loadPart hx (wpAny_bind (PySem.W.Looks.here (s := { s with toks := s.toks + 1 }) (PySem.W.looks_clsIn X hc) ?_))))))
  rw [hd']
  refine wpAny_pure (a := some dx) (wpAny_bind (wpAny_pure (wpAny_bind ?_)))
  refine wpAny_nsSet1 (s := { s with toks := s.toks + 1 }) I.ns fun h' hn2 hs2 => ?_
  obtain ⟨oD, esD, epD, hoD, hdD, hcD⟩ := hn2.count (PySem.Within.cons name v hw)
  refine wpAny_bind (wpAny_lookBehind hoD (by rw [hdD]; exact pastItsLine_dict (Nat.le_trans hcD (by rw [List.length_cons]; omega))) ?_)
  exact wpAny_pure (h _ ⟨(hs2.2 _ (Ne.symm I.ne)).trans I.obj, hn2, I.ne⟩ hs2)
theorem wU {R : Result → Shared → Prop} {vs : List Value} {kw : List (Str × Value)} (X : K.In s.heap) (hm : makesIn K C = true) (hi : findIn K (.ref C) "__init__" = some (some (.ref f))) (hf : PySem.W.typeIn K (.ref f) = some (.type "function")) (h : codeAny (model prog w) (A.under (.builtin "type.__call__" ⟨.ref C :: vs, kw⟩)) (.call (.ref f) ⟨.ref (s.heap.objs.size + 1) :: vs, kw⟩) (PySem.W.InitBack (s.heap.objs.size + 1) R)
      { s with heap := (s.heap.push PySem.W.emptyDict).push (PySem.W.instObj C s.heap.objs.size) }) :
    codeAny (model prog w) A (.call (.ref C) ⟨vs, kw⟩) R s := by
  obtain ⟨hh, g, d, t, os⟩ := s
  exact PySem.W.make_core (PySem.W.makes_of X hm) (PySem.W.looks_findIn X hi) (fun self => PySem.W.bind_fn X self hf) (.inl rfl) h
end
def FW (f : Str) (v : V) : List (Str × V) → List (Str × V)
  | [] => [(f, v)]
  | (g, x) :: r => if g = f then (g, v) :: r else (g, x) :: FW f v r
theorem qH (f g : Str) (v : V) : ∀ fs : List (Str × V), (FW f v fs).lookup g = if g = f then some v else fs.lookup g
  | [] => by
    show List.lookup g [(f, v)] = _
    by_cases h : g = f
    · have hb : (g == f) = true := beq_iff_eq.mpr h
      simp only [List.lookup, hb, if_pos h]
    · have hb : (g == f) = false := beq_eq_false_iff_ne.mpr h
      simp only [List.lookup, hb, if_neg h]
  | (k, x) :: r => by
    have ih := qH f g v r
    rw [show FW f v ((k, x) :: r) = (if k = f then (k, v) :: r else (k, x) :: FW f v r) from rfl]
    by_cases hk : k = f
    · rw [if_pos hk]
      by_cases h : g = k
      · have hb : (g == k) = true := beq_iff_eq.mpr h
        simp only [List.lookup, hb, if_pos (h.trans hk)]
      · have hb : (g == k) = false := beq_eq_false_iff_ne.mpr h
        simp only [List.lookup, hb, if_neg (fun e : g = f => h (e.trans hk.symm))]
    · rw [if_neg hk]
      by_cases h : g = k
      · have hb : (g == k) = true := beq_iff_eq.mpr h
        simp only [List.lookup, hb, if_neg (fun e : g = f => hk (h.symm.trans e))]
      · have hb : (g == k) = false := beq_eq_false_iff_ne.mpr h
        simp only [List.lookup, hb]
        exact ih
theorem Yi (f : Str) (v : V) : ∀ fs : List (Str × V), f ∈ (FW f v fs).map (·.1) ∧ ∀ g, g ∈ fs.map (·.1) → g ∈ (FW f v fs).map (·.1)
  | [] => ⟨by simp [FW], fun g h => by simp at h⟩
  | (k, x) :: r => by
    obtain ⟨i1, i2⟩ := Yi f v r
    rw [show FW f v ((k, x) :: r) = (if k = f then (k, v) :: r else (k, x) :: FW f v r) from rfl]
    by_cases hk : k = f
    · rw [if_pos hk]
      subst hk
      exact ⟨by simp, fun g h => by simpa using h⟩
    · rw [if_neg hk]
      refine ⟨?_, fun g h => ?_⟩
      · rw [List.map_cons]
        exact BK i1
      · rw [List.map_cons] at h ⊢
        rcases List.mem_cons.mp h with e | e
        · exact List.mem_cons.mpr (.inl e)
        · exact BK (i2 g e)
theorem pW (f : Str) (v : V) : ∀ fs : List (Str × V), (FW f v fs).length ≤ fs.length + 1
  | [] => by simp [FW]
  | (k, x) :: r => by
    have ih := pW f v r
    rw [show FW f v ((k, x) :: r) = (if k = f then (k, v) :: r else (k, x) :: FW f v r) from rfl]
    by_cases hk : k = f
    · rw [if_pos hk, List.length_cons, List.length_cons]; omega
    · rw [if_neg hk, List.length_cons, List.length_cons]; omega
theorem Jw.some_of {v : V} {o : Option Value} (r : Jw (some v) o) : ∃ u, o = some u ∧ RelV v u := by
  cases o with
  | none => exact (show False from r).elim
  | some u => exact ⟨u, rfl, r⟩
theorem Jw.none_of {o : Option Value} (r : Jw none o) : o = none := by
  cases o with
  | none => rfl
  | some u => exact (show False from r).elim
theorem ANV {v : V} {u : Value} (r : RelV v u) : PySem.W.handedIn u = true := by
  cases v with
  | non => cases (show u = Value.none from r); rfl
  | bl b => cases (show u = Value.bool b from r); rfl
  | int i => obtain ⟨t, e⟩ := (show ∃ t, u = Value.int i t from r); cases e; rfl
  | str x => obtain ⟨t, e⟩ := (show ∃ t, u = Value.str x t from r); cases e; rfl
  | byt b => obtain ⟨t, e⟩ := (show ∃ t, u = Value.bytes b t from r); cases e; rfl
  | flt b => obtain ⟨t, e⟩ := (show ∃ t, u = Value.float b t from r); cases e; rfl
  | ref a => cases (show u = Value.ref a from r); rfl
  | ty n => cases (show u = Value.type n from r); rfl
section
variable {P : Program} {w : World} {H H' : Hp} {h h' : Heap} {a C dx : Addr} {fs fs' : List (Str × V)}
theorem Xr (hok : Ec P w H h) (e : H a = some (.ins C dx fs)) : ∃ mA, NQ h a dx C mA ∧ (∀ f, Jw (fs.lookup f) (mA f)) ∧ PySem.Within mA (fs.map (·.1)) ∧ fs.length ≤ 1000 ∧ H dx = some (.own a) := by
  obtain ⟨d, z, ne, ob, mA, n, r, q⟩ := (show Em P w H h a (.ins C dx fs) from hok a _ e)
  exact ⟨mA, ⟨ob, n, ne⟩, r, q, z, d⟩
end
structure Hc (K : Frag) (C : Addr) : Prop where
  pg : PySem.W.plainGet K C Str.empty = true
  hd : PySem.W.hasDictIn K C = true
  po : PySem.W.plainOver K C = true
  sa : findIn K (.ref C) "__setattr__" = some (some (.builtin "object.__setattr__"))
theorem Hc.get {K : Frag} {C : Addr} (c : Hc K C) (f : Str) : PySem.W.plainGet K C f = true := c.pg
def OD (K : Frag) (C : Addr) (f : Str) : Prop := findIn K (.ref C) f = some none
theorem OD.AGS {K : Frag} {C : Addr} {f : Str} (n : OD K C f) : PySem.W.takerIn K C f = some none := by
  unfold PySem.W.takerIn
  rw [show findIn K (.ref C) f = some none from n]
  rfl
structure Con (K : Frag) (C : Addr) (f : Str) (v : V) (u : Value) : Prop where
  at_ : findIn K (.ref C) f = some (some u)
  rel : RelV v u
  get : PySem.W.specialIn K u "__get__" = some none
  cp : PySem.W.copiedNames.contains f = false
structure Meth (K : Frag) (C : Addr) (m : Str) (f : Addr) : Prop where
  at_ : findIn K (.ref C) m = some (some (.ref f))
  fn : PySem.W.isFn K (.ref f) = true
  kp : keepIn K (.ref f) = true
section
variable {X : Cx} {pins : List (Addr × Obj)} {σ : St} {H : Hp} {s : Shared} {a C dx : Addr} {fs : List (Str × V)} {f : Str} {v : V} {A : Around} {E : Value → Shared → Prop}
theorem ACS {b : Bool} {Q : Value → Shared → Prop} (I : Inv X pins σ H s) (e : H a = some (.ins C dx fs)) (c : Hc X.K C) (n : OD X.K C f) (l : fs.lookup f = some v) (h : ∀ u s', Inv X pins σ H s' → RelV v u → Q u s') : wpAny (model X.prog X.w) A (getAttr (.ref a) f b) Q E s := by
  obtain ⟨mA, O, r, _, _, _⟩ := Xr I.hok e
  obtain ⟨u, hu, ru⟩ := Jw.some_of (v := v) (o := mA f) (by rw [← l]; exact r f)
  exact get_map I.DW O (c.get f) c.hd n hu (ANV ru) (h u _ (I.tok _) ru)
theorem rN {m : Str} {g : Addr} {pl : Sem Bool} {Q : Value × List Value → Shared → Prop} (I : Inv X pins σ H s) (e : H a = some (.ins C dx fs)) (c : Hc X.K C) (k : Meth X.K C m g) (l : fs.lookup m = none) (h : Q (.ref g, [.ref a]) s) : wpAny (model X.prog X.w) A (getMethod (.ref a) m pl) Q E s := by
  obtain ⟨mA, O, r, _, _, _⟩ := Xr I.hok e
  have hn : mA m = none := Jw.none_of (by rw [← l]; exact r m)
  exact ANs I.DW O (c.get m) k.at_ k.fn hn h
theorem AFL {y : V} {u : Value} {Q : Unit → Shared → Prop} (I : Inv X pins σ H s) (e : H a = some (.ins C dx fs)) (c : Hc X.K C) (n : OD X.K C f) (hl : fs.length < 1000) (ry : RelV y u) (h : ∀ s', Inv X pins σ (upd H a (.ins C dx (FW f y fs))) s' → Q () s') : wpAny (model X.prog X.w) A (setAttr (.ref a) f u) Q E s := by
  obtain ⟨mA, O, r, wi, _, ho⟩ := Xr I.hok e
  have hz : (fs.map (·.1)).length ≤ sizeLine := by rw [List.length_map, sizeLine_eq]; omega
  refine AIY I.DW O c.sa c.po n.AGS c.hd wi hz fun h' O' sb => h _ ?_
  have hd : ∃ o, h'.get? dx = some o := let ⟨o, _, _, e', _⟩ := O'.ns; ⟨o, e'⟩
  refine I.write (x := a) (e := dx) (by rw [e]; exact True.intro) (.inr ho) (fun b q hb z => (sb.2 b hb).trans z) hd ?_
  refine ⟨by rw [Ba O.ne]; exact ho, ?_, O.ne, O'.obj, _, O'.ns, fun g => ?_, fun g hg => ?_⟩
  · have := pW f y fs; omega
  · show Jw ((FW f y fs).lookup g) (if g = f then some u else mA g)
    rw [qH]
    by_cases q : g = f
    · rw [if_pos q, if_pos q]; exact ry
    · rw [if_neg q, if_neg q]; exact r g
  · by_cases q : g = f
    · rw [q]; exact (Yi f y fs).1
    · refine (Yi f y fs).2 g (wi g fun z => hg ?_)
      show (if g = f then some u else mA g) = none
      rw [if_neg q]; exact z
theorem Inv.made (I : Inv X pins σ H s) : Inv X pins σ (upd (upd H s.heap.objs.size (.own (s.heap.objs.size + 1))) (s.heap.objs.size + 1) (.ins C s.heap.objs.size [])) { s with heap := (s.heap.push PySem.W.emptyDict).push (PySem.W.instObj C s.heap.objs.size) } := by
  have e1 : (s.heap.push PySem.W.emptyDict).get? s.heap.objs.size = some PySem.W.emptyDict := Heap.get?_push_size s.heap rfl
  have e2 : ((s.heap.push PySem.W.emptyDict).push (PySem.W.instObj C s.heap.objs.size)).get? (s.heap.objs.size + 1) = some (PySem.W.instObj C s.heap.objs.size) := by
    have := Heap.get?_push_size (s.heap.push PySem.W.emptyDict) (o := PySem.W.instObj C s.heap.objs.size) rfl
    rwa [Heap.size_push] at this
  have e3 : (s.heap.push PySem.W.emptyDict).Ns s.heap.objs.size (fun _ => none) := ⟨PySem.W.emptyDict, #[], _, e1, rfl, (fun e he => absurd he (by simp)), fun _ => rfl⟩
  have I1 := I.laid (a := s.heap.objs.size) (o := .own (s.heap.objs.size + 1)) (h' := s.heap.push PySem.W.emptyDict) (t' := s.toks) (fun b u q => Heap.get?_push_of_some _ q) (Nat.le_refl _) ⟨_, e1⟩
  refine I1.laid (a := s.heap.objs.size + 1) (o := .ins C s.heap.objs.size []) (t' := s.toks) (fun b u q => Heap.get?_push_of_some _ q) (Nat.le_of_eq (Heap.size_push _ _)) ?_
  have ne : s.heap.objs.size ≠ s.heap.objs.size + 1 := Nat.ne_of_lt (Nat.lt_succ_self _)
  refine ⟨by rw [Ba ne, Dg], Nat.zero_le _, ne, e2, fun _ => none, (Heap.Ns1.of_empty e3).at fun o q => Heap.get?_push_of_some _ q, fun _ => True.intro, fun y hy => absurd rfl hy⟩
theorem AOd {prog : Program} {w : World} {env : Env} {e : Expr} {f : Str} {pos : Pos} {s : Shared} {Q : Value → Shared → Prop} (hb : attributeBase e f env (eval e env) = eval e env) (h : wpAny (model prog w) A (eval e env) (fun o s₁ => wpAny (model prog w) A (getAttr o f true) Q E s₁) E s) : wpAny (model prog w) A (eval (.Attribute e f pos) env) Q E s :=
  Attribute_any_ h (by rw [arm_eval_Attribute, hb])
end
def wR (K : Frag) (ta : TE) (f : Str) : TE := fun σ H Q => ta σ H fun x H1 => ∃ a C dx fs v, x = .ref a ∧ H1 a = some (.ins C dx fs) ∧ Hc K C ∧ OD K C f ∧ fs.lookup f = some v ∧ Q v H1
def VJ (K : Frag) (ta tv : TE) (f : Str) : TS := fun D σ H => tv σ H fun y H1 => ta σ H1 fun x H2 => ∃ a C dx fs, x = .ref a ∧ H2 a = some (.ins C dx fs) ∧ Hc K C ∧ OD K C f ∧ fs.length < 1000 ∧
  D.nx σ (upd H2 a (.ins C dx (FW f y fs)))
section
variable {X : Cx} {o e value : Expr} {f : Str} {pos pos' tpos : Pos} {ta tv : TE}
theorem AAd (he : PE X e ta) (hb : attributeBase e f X.env (eval e X.env) = eval e X.env) : PE X (.Attribute e f pos) (wR X.K ta f) := by
  intro pins s σ H Q I h
  refine AOd hb (Bf (he pins s σ H _ I h) fun u s1 ⟨x, H1, I1, rx, a, C, dx, fs, v, ex, ea, c, n, l, q⟩ => ?_)
  subst ex
  obtain rfl : u = Value.ref a := rx
  exact ACS I1 ea c n l fun u' s2 I2 ru => ⟨v, H1, I2, ru, q⟩
theorem AKs (ha : PE X o ta) (hv : PE X value tv) (hs : swapsWith value (some (.Attribute o f pos')) pos.line X.env = pure false) : PS X (.Assign [.Attribute o f pos'] value pos) (VJ X.K ta tv f) := by
  intro pins s σ H D I h
  refine plainObj_wpAny_Assign_Attribute (Bf (hv pins s σ H _ I h) fun u s1 ⟨y, H1, I1, ry, q⟩ => Bf (ha pins s1 σ H1 _ I1 q) fun ov s2 ⟨x, H2, I2, rx, a, C, dx, fs, ex, ea, c, n, l, q2⟩ => ?_) hs
  subst ex
  obtain rfl : ov = Value.ref a := rx
  exact AFL I2 ea c n l ry fun s3 I3 => ⟨σ, _, I3, q2⟩
end
section
variable {X : Cx} {pins : List (Addr × Obj)} {σ : St} {H : Hp} {s : Shared} {A : Around} {E : Value → Shared → Prop} {Q : Value → Shared → Prop} {c : Value} {b : Bool}
inductive Ik (K : Frag) (H : Hp) : V → Value → Prop where
  | non : Ik K H .non (.type "NoneType")
  | bl (x : Bool) : Ik K H (.bl x) (.type "bool")
  | int (i : Int) : Ik K H (.int i) (.type "int")
  | str (x : Str) : Ik K H (.str x) (.type "str")
  | flt (x : UInt64) : Ik K H (.flt x) (.type "float")
  | lst {a : Addr} {xs : List V} (e : H a = some (.lst xs)) : Ik K H (.ref a) (.type "list")
  | frz {a : Addr} {o : Obj} {xs : List V} (e : H a = some (.frz o (.lst xs))) : Ik K H (.ref a) (.type "list")
  | tup {a : Addr} {xs : List V} (e : H a = some (.tup xs)) : Ik K H (.ref a) (.type "tuple")
  | dK {a : Addr} {kvs : List (Key × V)} (e : H a = some (.dK kvs)) : Ik K H (.ref a) (.type "dict")
  | dT {a : Addr} {kvs : List (List Key × V)} (e : H a = some (.dT kvs)) : Ik K H (.ref a) (.type "dict")
  | ins {a C dx : Addr} {fs : List (Str × V)} (e : H a = some (.ins C dx fs)) (cl : Hc K C) (ha : findIn K (.ref C) "__class__" = some (some (.builtin "object.__class__")))
      (hn : PySem.W.specialIn K (.builtin "object.__class__") "__get__" = some (some (.builtin "getset_descriptor.__get__"))) (htk : PySem.W.takesIn K (.builtin "object.__class__") = some true)
      (hm : mroIn K C (.type "object") = some true) : Ik K H (.ref a) (.ref C)
theorem S5 {x : V} {u t : Value} (I : Inv X pins σ H s) (rx : RelV x u) (ty : Ik X.K H x t) (e : kitOne X.K t c = some b) (h : ∀ tk, Q (.bool b) { s with toks := tk }) :
    wpAny (model X.prog X.w) A (call (.builtin "isinstance") [u, c]) Q E s := by
  cases ty with
  | non => cases (show u = Value.none from rx); exact kia_one PySem.W.kitx_none I.DW True.intro e (fun z => nomatch z) h
  | bl y => cases (show u = Value.bool y from rx); exact kia_one PySem.W.kitx_bool I.DW True.intro e (fun z => nomatch z) h
  | int i => obtain ⟨t, q⟩ := (show ∃ t, u = Value.int i t from rx); cases q; exact kia_one PySem.W.kitx_int I.DW True.intro e (fun z => nomatch z) h
  | str y => obtain ⟨t, q⟩ := (show ∃ t, u = Value.str y t from rx); cases q; exact kia_one PySem.W.kitx_str I.DW True.intro e (fun z => nomatch z) h
  | flt y => obtain ⟨t, q⟩ := (show ∃ t, u = Value.float y t from rx); cases q; exact kia_one PySem.W.kitx_float I.DW True.intro e (fun z => nomatch z) h
  | @lst a xs ea =>
    cases (show u = Value.ref a from rx)
    obtain ⟨_, _, n, _, h1⟩ := (show Em X.prog X.w H s.heap a (.lst xs) from I.hok a _ ea)
    exact kia_one PySem.W.kitx_list I.DW ⟨_, h1, rfl⟩ e (fun z => nomatch z) h
  | @frz a ob xs ea =>
    cases (show u = Value.ref a from rx)
    obtain ⟨_, _, _, n, _, h1⟩ := (show Em X.prog X.w H s.heap a (.frz ob (.lst xs)) from I.hok a _ ea)
    exact kia_one PySem.W.kitx_list I.DW ⟨_, h1, rfl⟩ e (fun z => nomatch z) h
  | @tup a xs ea =>
    cases (show u = Value.ref a from rx)
    obtain ⟨_, _, _, p⟩ := (show Em X.prog X.w H s.heap a (.tup xs) from I.hok a _ ea)
    obtain ⟨o, h1, h2, _⟩ := p
    exact kia_one PySem.W.kitx_tuple I.DW ⟨o, h1, h2⟩ e (fun z => nomatch z) h
  | @dK a kvs ea =>
    cases (show u = Value.ref a from rx)
    obtain ⟨_, _, vs, _, p⟩ := (show Em X.prog X.w H s.heap a (.dK kvs) from I.hok a _ ea)
    obtain ⟨o, es, ep, h1, h2, _⟩ := p
    exact kia_one PySem.W.kitx_dict I.DW ⟨o, h1, h2.1⟩ e (fun z => nomatch z) h
  | @dT a kvs ea =>
    cases (show u = Value.ref a from rx)
    obtain ⟨_, _, xs, _, o, es, ep, h1, h2, _⟩ := (show Em X.prog X.w H s.heap a (.dT kvs) from I.hok a _ ea)
    exact kia_one PySem.W.kitx_dict I.DW ⟨o, h1, h2.1⟩ e (fun z => nomatch z) h
  | @ins a C dx fs ea cl ha hn htk hm =>
    cases (show u = Value.ref a from rx)
    obtain ⟨mA, O, _⟩ := Xr I.hok ea
    obtain ⟨od, J, _⟩ := O.look
    exact kia_one (PySem.W.kitx_own (cl.get _) cl.hd ha hn htk hm) I.DW J e (fun z => nomatch z) h
end
end L2
namespace L2
open PySem PySem.Spec PyProof.Rows
structure Ck (k : Nat) (A : Around) : Prop where
  hd : A.handled = none
  dp : A.depth + 3 * k + 5 < recursionLimit
  un : A.units + 16 * k + 200 < cLine
theorem Ck.mono {j k : Nat} {A : Around} (r : Ck k A) (h : j ≤ k) : Ck j A := ⟨r.hd, by have := r.dp; omega, by have := r.un; omega⟩
theorem Ck.deeper {k : Nat} {A : Around} (r : Ck (k + 1) A) (env : Env) : Ck k (A.deeper env) :=
  ⟨r.hd, by have := r.dp; show A.depth + 1 + 3 * k + 5 < _; omega, by have := r.un; show A.units + 3 + 16 * k + 200 < _; omega⟩
theorem AMJ {A : Around} {C : Addr} {us : List Value} {kw : List (Str × Value)} : (A.under (.builtin "type.__call__" ⟨.ref C :: us, kw⟩)).depth = A.depth + 1 := by
  first | rfl | simp [Around.under, Code.weight, Code.isCreation, Code.isGuard, Code.isCaller, Code.frames, Code.isFrame, guardIds]
theorem AN1 {A : Around} {C : Addr} {us : List Value} {kw : List (Str × Value)} : (A.under (.builtin "type.__call__" ⟨.ref C :: us, kw⟩)).units = A.units + 1 := by
  first | rfl | simp [Around.under, Code.cUnits, Code.frames, Code.isFrame]
theorem Ck.make {k : Nat} {A : Around} (r : Ck (k + 1) A) (C : Addr) (us : List Value) (kw : List (Str × Value)) : Ck k (A.under (.builtin "type.__call__" ⟨.ref C :: us, kw⟩)) :=
  ⟨r.hd, by have := r.dp; rw [AMJ]; omega, by have := r.un; rw [AN1]; omega⟩
theorem Ck.depth {k : Nat} {A : Around} (r : Ck k A) : A.depth < recursionLimit := by have := r.dp; omega
theorem Ck.units {k : Nat} {A : Around} (r : Ck k A) : A.units + 64 < cLine := by have := r.un; omega
def Gd : TA := fun _ H Q => Q [] H
def GD (ta : TE) (tr : TA) : TA := fun σ H Q => ta σ H fun x H1 => tr σ H1 fun xs H2 => Q (x :: xs) H2
section
variable {X : Cx} {e : Expr} {es : List Expr} {te : TE} {t : TA} {pos : Pos}
theorem HY : PA X [] Gd := fun _ _ _ _ H Q I h => Calls.spliced_nil ⟨[], H, I, .nil, h⟩
theorem Eo (ha : PE X e te) (hr : PA X es t) (hs : starEach (e :: es) X.env = (false, eval e X.env) :: starEach es X.env := by rfl) : PA X (e :: es) (GD te t) := by
  intro pos pins s σ H Q I h
  rw [hs]
  show wpAny _ _ (spliced ((false, eval e X.env) :: backTo pos (starEach es X.env))) _ _ s
  refine Calls.spliced_cons (Bf (ha pins s σ H _ I h) fun u s1 ⟨x, H1, I1, r1, q1⟩ => ?_)
  exact Bf (hr pos pins s1 σ H1 _ I1 q1) fun us s2 ⟨xs, H2, I2, r2, q2⟩ => ⟨x :: xs, H2, I2, .cons r1 r2, q2⟩
def dM (t : TA) : TE := fun σ H Q => t σ H fun xs H1 => xs.length ≤ sizeLine ∧ ∀ p, H1 p = none → Q (.ref p) (upd H1 p (.tup xs))
def Wz (t : TA) : TE := fun σ H Q => t σ H fun xs H1 => xs.length ≤ sizeLine ∧ ∀ p, H1 p = none → Q (.ref p) (upd H1 p (.lst xs))
theorem qT {x1} (h : PA X es t) : PE X (.Tuple es x1 pos) (dM t) := by
  intro pins s σ H Q I hq
  refine wpAny_Tuple_spliced (Bf (h pos pins s σ H _ I hq) fun us s1 ⟨xs, H1, I1, r, z, q⟩ => ⟨by rw [← r.length]; exact z, ?_⟩)
  have hf : H1 s1.heap.objs.size = none := I1.hok.fresh (Nat.le_refl _)
  refine ⟨.ref s1.heap.objs.size, upd H1 s1.heap.objs.size (.tup xs), I1.laid (t' := s1.toks) (fun b u e => Heap.get?_push_of_some _ e) (Nat.le_refl _) ?_, rfl, q _ hf⟩
  exact ⟨z, us, r, ⟨_, Heap.get?_push_size _ rfl, rfl, _, rfl⟩⟩
theorem cT (h : PA X es t) : PE X (.List es pos) (Wz t) := by
  intro pins s σ H Q I hq
  refine wpAny_List_spliced (Bf (h pos pins s σ H _ I hq) fun us s1 ⟨xs, H1, I1, r, z, q⟩ => ⟨by rw [← r.length]; exact z, ?_⟩)
  have hf : H1 s1.heap.objs.size = none := I1.hok.fresh (Nat.le_refl _)
  refine ⟨.ref s1.heap.objs.size, upd H1 s1.heap.objs.size (.lst xs), I1.laid (t' := s1.toks) (fun b u e => Heap.get?_push_of_some _ e) (Nat.le_refl _) ?_, rfl, q _ hf⟩
  exact ⟨z, us, 0, r, Heap.get?_push_size _ rfl⟩
end
abbrev Sp := List V → Hp → VK → XK → Prop
abbrev G8 := List Env → Hp → Shared → XK → Value → Shared → Prop
structure QZ (P : Program) (w : World) (K : Frag) (mg : Str → Option Value) (base : Heap) (A : Around) (outer : List Env) (s : Shared) (H : Hp) : Prop where
  frames : A.frames = some outer
  mod : Mod K mg base
  bs : ∀ b o, base.get? b = some o → s.heap.get? b = some o ∧ H b = none
  bsz : base.objs.size ≤ s.heap.objs.size
  HR : s.heap.FunFrames base outer
  frf : ∀ b ∈ EY outer, H b = none
  hok : Ec P w H s.heap
  bare : AllBare s.gens
def CE (outer : List Env) (P : Program) (w : World) (H : Hp) (s : Shared) (Q : VK) (u : Value) (s' : Shared) : Prop :=
  ∃ v H', s'.os = s.os ∧ AllBare s'.gens ∧ Un (EY outer) [] H H' s.heap s'.heap ∧ Ec P w H' s'.heap ∧ RelV v u ∧ Q v H'
def CR (CX : G8) (outer : List Env) (P : Program) (w : World) (H : Hp) (s : Shared) (Q : VK) (E : XK) (r : Result) (s' : Shared) : Prop :=
  match r with
  | .ok (.ret u) => CE outer P w H s Q u s'
  | .ok _ => False
  | .error e => CX outer H s E e s'
structure Er (P : Program) (w : World) (K : Frag) (mg : Str → Option Value) (base : Heap) (CX : G8) (k : Nat) (f : Addr) (fd : FuncData) (ps : List Str) (sp : Sp) : Prop where
  len : ∀ vs H Q E, sp vs H Q E → vs.length = ps.length
  run : ∀ (A : Around) (outer : List Env) (s : Shared) (H : Hp) (args : Args) (us : List Value) (vs : List V) (Q : VK) (E : XK), Ck k A → QZ P w K mg base A outer s H → BindsTo s fd args (ps.zip us) → Vals vs us → sp vs H Q E →
    codeAny (model P w) A (.call (.ref f) args) (CR CX outer P w H s Q E) s
theorem Er.mono {P : Program} {w : World} {K : Frag} {mg : Str → Option Value} {base : Heap} {CX : G8} {j k : Nat} {f : Addr} {fd : FuncData} {ps : List Str} {sp : Sp} (F : Er P w K mg base CX j f fd ps sp) (h : j ≤ k) :
    Er P w K mg base CX k f fd ps sp := ⟨F.len, fun A outer s H args us vs Q E hr => F.run A outer s H args us vs Q E (hr.mono h)⟩
theorem Er.imp {P : Program} {w : World} {K : Frag} {mg : Str → Option Value} {base : Heap} {CX : G8} {k : Nat} {f : Addr} {fd : FuncData} {ps : List Str} {sp sp' : Sp} (F : Er P w K mg base CX k f fd ps sp) (h : ∀ vs H Q E, sp' vs H Q E → sp vs H Q E) : Er P w K mg base CX k f fd ps sp' :=
  ⟨fun vs H Q E q => F.len vs H Q E (h _ _ _ _ q), fun A outer s H args us vs Q E hr he hb hv hs => F.run A outer s H args us vs Q E hr he hb hv (h _ _ _ _ hs)⟩
theorem QZ.make {P : Program} {w : World} {K : Frag} {mg : Str → Option Value} {base : Heap} {A : Around} {outer : List Env} {s : Shared} {H : Hp} (e : QZ P w K mg base A outer s H) (C : Addr) (us : List Value) (kw : List (Str × Value)) :
    QZ P w K mg base (A.under (.builtin "type.__call__" ⟨.ref C :: us, kw⟩)) outer s H := ⟨by first | exact e.frames | (simpa [Around.under, Code.envs, Code.isFrame, pushEnvs] using e.frames), e.mod, e.bs, e.bsz, e.HR, e.frf, e.hok, e.bare⟩
section
variable {X : Cx} {pins : List (Addr × Obj)} {σ : St} {H : Hp} {s s' : Shared}
theorem Inv.gR (I : Inv X pins σ H s) : QZ X.prog X.w X.K X.mg X.base X.A X.stack s H :=
  ⟨I.ok.frames, I.ok.mod, I.bs, Nat.le_trans I.ok.bsz I.sz, I.stack, I.bQ, I.hok, I.bare⟩
theorem Inv.after {Q : VK} {u : Value} (I : Inv X pins σ H s) (h : CE X.stack X.prog X.w H s Q u s') : EP X pins σ Q u s' := by
  obtain ⟨v, H', os, bare, un, hok, r, q⟩ := h
  obtain ⟨hh, g, d, t, os'⟩ := s'
  obtain rfl : os' = s.os := os
  exact ⟨v, H', I.call (h' := hh) (g' := g) (d' := d) (t' := t) (ch := []) un hok bare (fun b z => absurd z (by simp)), r, q⟩
end
def Uh (sp : Sp) (dvs : List V) (E : XK) (t : TA) : TE := fun σ H Q => t σ H fun vs H1 => sp (vs ++ dvs) H1 Q E
def RQ (C : Addr) (m : Str) (sp : Sp) (dvs : List V) (E : XK) (ta : TE) (t : TA) : TE := fun σ H Q => ta σ H fun x H1 => ∃ a dx fs, x = .ref a ∧ H1 a = some (.ins C dx fs) ∧ fs.lookup m = none ∧
  t σ H1 fun vs H2 => sp (x :: (vs ++ dvs)) H2 Q E
def dR (C : Addr) (sp : Sp) (dvs : List V) (E : XK) (t : TA) : TE := fun σ H Q => t σ H fun vs H1 => ∀ x dx, H1 x = none → H1 dx = none → dx ≠ x →
  sp (.ref x :: (vs ++ dvs)) (upd (upd H1 dx (.own x)) x (.ins C dx [])) (fun v H2 => v = .non ∧ Q (.ref x) H2) E
def Binds (K : Frag) (fd : FuncData) (ps : List Str) (ds : List Value) : Prop :=
  ∀ (s : Shared) (us : List Value), K.In s.heap → (us ++ ds).length = ps.length → BindsTo s fd ⟨us, []⟩ (ps.zip (us ++ ds))
theorem Binds.all {K : Frag} {fd : FuncData} {ps : List Str} (h : ∀ us : List Value, us.length = ps.length → bindArgs fd ⟨us, []⟩ = pure (ps.zip us)) : Binds K fd ps [] := fun s us _ hl => by
  rw [List.append_nil] at hl ⊢
  exact .of_eq (h us hl)
def Passes (CX : G8) (X : Cx) (E : XK) : Prop := ∀ (pins : List (Addr × Obj)) (σ : St) (H : Hp) (s : Shared) (e : Value) (s' : Shared), Inv X pins σ H s → CX X.stack H s E e s' → X.xe e s'
section
variable {X : Cx} {CX : G8} {k : Nat} {f C : Addr} {fd : FuncData} {ps : List Str} {sp : Sp} {dvs : List V} {ds : List Value} {E : XK} {x m : Str} {p pos apos : Pos} {e o : Expr} {es : List Expr} {ta : TE} {t : TA}
theorem Yr {pins : List (Addr × Obj)} {σ : St} {H : Hp} {s : Shared} {Q : VK} {us : List Value} {vs : List V} (F : Er X.prog X.w X.K X.mg X.base CX k f fd ps sp) (hr : Ck k X.A) (hb : Binds X.K fd ps ds) (hd : Vals dvs ds) (hx : Passes CX X E) (I : Inv X pins σ H s) (r : Vals vs us) (h : sp (vs ++ dvs) H Q E) : wpAny (model X.prog X.w) X.A (call (.ref f) us) (EP X pins σ Q) X.xe s := by
  have r2 : Vals (vs ++ dvs) (us ++ ds) := r.append hd
  have hl : (us ++ ds).length = ps.length := by rw [← r2.length]; exact F.len _ _ _ _ h
  refine wpAny_call (codeAny_mono (F.run X.A X.stack s H ⟨us, []⟩ (us ++ ds) (vs ++ dvs) Q E hr I.gR (hb s us I.DW hl) r2 h) fun r s' hq => ?_)
  cases r with
  | error e => exact hx pins σ H s e s' I hq
  | ok fl =>
    cases fl with
    | ret u => exact I.after hq
    | next => exact False.elim hq
    | brk => exact False.elim hq
    | cont => exact False.elim hq
theorem AI0 (F : Er X.prog X.w X.K X.mg X.base CX k f fd ps sp) (hr : Ck k X.A) (hg : Gl X x) (hm : X.mg x = some (.ref f)) (hk : keepIn X.K (.ref f) = true) (hb : Binds X.K fd ps ds) (hd : Vals dvs ds) (hx : Passes CX X E) (ha : PA X (e :: es) t) (hdb : (x == ("__debug__" : Str)) = false := by decide) (he : starEach (e :: es) X.env = (false, eval e X.env) :: starEach es X.env := by rfl) (hpl : (backTo pos (starEach es X.env)).any (·.1) = false := by rfl) :
    PE X (.Call (.Name x p) (e :: es) [] pos) (Uh sp dvs E t) := by
  intro pins s σ H Q I h
  refine wpAny_Call_Name_kw (Rp I hg hm ?_ hdb)
  refine PySem.W.callWith_K (h₀ := X.base) I.ok.mod.kin hk (Bf (ha pos pins s σ H _ I h) fun us s1 ⟨vs, H1, I1, r, q⟩ => ⟨I1.DW, ?_⟩) he hpl
  exact Yr F hr hb hd hx I1 r q
theorem AFV {pl : Sem Bool} (he : PE X o ta) (c : Hc X.K C) (hm : Meth X.K C m f) (F : Er X.prog X.w X.K X.mg X.base CX k f fd ps sp) (hr : Ck k X.A) (hb : Binds X.K fd ps ds) (hd : Vals dvs ds) (hx : Passes CX X E) (ha : PA X (e :: es) t) (hst : starEach (e :: es) X.env = (false, eval e X.env) :: starEach es X.env := by rfl) (hpl : (backTo pos (starEach es X.env)).any (·.1) = false := by rfl) (ht : eval (.Call (.Attribute o m apos) (e :: es) [] pos) X.env = (do
      let ov ← eval o X.env
      standAt apos.atName
      let (f, first) ← holding [ov] (getMethod ov m pl)
      callWith pos f first (backTo pos (starEach (e :: es) X.env)) (backToKw pos (keywordEach [] X.env))) := by rfl) :
    PE X (.Call (.Attribute o m apos) (e :: es) [] pos) (RQ C m sp dvs E ta t) := by
  intro pins s σ H Q I h
  refine PySem.W.methodCall_KW (pl := pl) (Bf (he pins s σ H _ I h) fun u s1 ⟨x, H1, I1, rx, a, dx, fs, ex, ea, l, q⟩ => ?_) ht
  subst ex
  obtain rfl : u = Value.ref a := rx
  refine rN I1 ea c hm l ?_
  refine PySem.W.callWith_K (first := [.ref a]) (h₀ := X.base) I.ok.mod.kin hm.kp (Bf (ha pos pins s1 σ H1 _ I1 q) fun us s2 ⟨vs, H2, I2, r, q2⟩ => ⟨I2.DW, ?_⟩) hst hpl
  exact Yr (us := .ref a :: us) (vs := .ref a :: vs) F hr hb hd hx I2 (.cons rfl r) q2
theorem jD {pl : Sem Bool} (he : PE X o ta) (c : Hc X.K C) (hm : Meth X.K C m f) (F : Er X.prog X.w X.K X.mg X.base CX k f fd ps sp) (hr : Ck k X.A) (hb : Binds X.K fd ps ds) (hd : Vals dvs ds) (hx : Passes CX X E) (ht : eval (.Call (.Attribute o m apos) [] [] pos) X.env = (do
      let ov ← eval o X.env
      standAt apos.atName
      let (f, first) ← holding [ov] (getMethod ov m pl)
      callWith pos f first (backTo pos (starEach [] X.env)) (backToKw pos (keywordEach [] X.env))) := by rfl) :
    PE X (.Call (.Attribute o m apos) [] [] pos) (RQ C m sp dvs E ta Gd) := by
  intro pins s σ H Q I h
  refine PySem.W.methodCall_KW (pl := pl) (Bf (he pins s σ H _ I h) fun u s1 ⟨x, H1, I1, rx, a, dx, fs, ex, ea, l, q⟩ => ?_) ht
  subst ex
  obtain rfl : u = Value.ref a := rx
  refine rN I1 ea c hm l ?_
  exact PySem.W.callWith_K0 (first := [.ref a]) I1.DW hm.kp (Yr (us := [.ref a]) (vs := [.ref a]) F hr hb hd hx I1 (.cons rfl .nil) q)
structure Mk (K : Frag) (C f : Addr) : Prop where
  makes : makesIn K C = true
  init : findIn K (.ref C) "__init__" = some (some (.ref f))
  fn : PySem.W.isFn K (.ref f) = true
  kp : keepIn K (.ref C) = true
theorem t6 {pins : List (Addr × Obj)} {σ : St} {H : Hp} {s : Shared} {Q : VK} {us : List Value} {vs : List V} (M : Mk X.K C f) (F : Er X.prog X.w X.K X.mg X.base CX k f fd ps sp) (hr : Ck (k + 1) X.A) (hb : Binds X.K fd ps ds) (hd : Vals dvs ds) (hx : Passes CX X E) (I : Inv X pins σ H s) (r : Vals vs us) (h : ∀ x dx, H x = none → H dx = none → dx ≠ x → sp (.ref x :: (vs ++ dvs)) (upd (upd H dx (.own x)) x (.ins C dx [])) (fun v H2 => v = .non ∧ Q (.ref x) H2) E) :
    wpAny (model X.prog X.w) X.A (call (.ref C) us) (EP X pins σ Q) X.xe s := by
  have hq := h (s.heap.objs.size + 1) s.heap.objs.size (I.hok.fresh (Nat.le_succ _)) (I.hok.fresh (Nat.le_refl _)) (Nat.ne_of_lt (Nat.lt_succ_self _))
  have I2 := Inv.made (C := C) I
  have r2 : Vals (V.ref (s.heap.objs.size + 1) :: (vs ++ dvs)) (Value.ref (s.heap.objs.size + 1) :: (us ++ ds)) := .cons rfl (r.append hd)
  have hl : (Value.ref (s.heap.objs.size + 1) :: us ++ ds).length = ps.length := by
    have e := r2.length
    rw [F.len _ _ _ _ hq] at e
    exact e.symm
  refine wpAny_call (wU (f := f) I.DW M.makes M.init (beq_iff_eq.mp M.fn) (codeAny_mono (F.run _ X.stack _ _ ⟨Value.ref (s.heap.objs.size + 1) :: us, []⟩ (Value.ref (s.heap.objs.size + 1) :: (us ++ ds)) _ _ E (hr.make C us [])
    (I2.gR.make C us []) (hb _ (Value.ref (s.heap.objs.size + 1) :: us) I2.DW hl) r2 hq) fun r s' hq' => ?_))
  cases r with
  | error e => exact hx pins σ _ _ e s' I2 hq'
  | ok fl =>
    cases fl with
    | ret u =>
      obtain ⟨v, H', I3, rv, ev, q3⟩ := I2.after hq'
      subst ev
      exact ⟨rv, ⟨V.ref (s.heap.objs.size + 1), H', I3, rfl, q3⟩⟩
    | next => exact False.elim hq'
    | brk => exact False.elim hq'
    | cont => exact False.elim hq'
theorem ANu (M : Mk X.K C f) (F : Er X.prog X.w X.K X.mg X.base CX k f fd ps sp) (hr : Ck (k + 1) X.A) (hg : Gl X x) (hm : X.mg x = some (.ref C)) (hb : Binds X.K fd ps ds) (hd : Vals dvs ds) (hx : Passes CX X E) (ha : PA X (e :: es) t) (hdb : (x == ("__debug__" : Str)) = false := by decide) (he : starEach (e :: es) X.env = (false, eval e X.env) :: starEach es X.env := by rfl) (hpl : (backTo pos (starEach es X.env)).any (·.1) = false := by rfl) :
    PE X (.Call (.Name x p) (e :: es) [] pos) (dR C sp dvs E t) := by
  intro pins s σ H Q I h
  refine wpAny_Call_Name_kw (Rp I hg hm ?_ hdb)
  refine PySem.W.callWith_K (h₀ := X.base) I.ok.mod.kin M.kp (Bf (ha pos pins s σ H _ I h) fun us s1 ⟨vs, H1, I1, r, q⟩ => ⟨I1.DW, ?_⟩) he hpl
  exact t6 M F hr hb hd hx I1 r q
end
section
variable {X : Cx} {CX : G8} {k : Nat} {f C : Addr} {fd : FuncData} {ps ks : List Str} {sp : Sp} {E : XK} {x m : Str} {p pos apos kpos : Pos} {e o : Expr} {es : List Expr} {kws : List Keyword} {te ta : TE} {t tk : TA} {nm : Option Str}
structure AOp (K : Frag) (fd : FuncData) (ps ks : List Str) (g : List Value → List Value → List Value) (gV : List V → List V → List V) : Prop where
  to : ∀ (s : Shared) (us ws : List Value), K.In s.heap → (g us ws).length = ps.length → BindsTo s fd ⟨us, ks.zip ws⟩ (ps.zip (g us ws))
  rel : ∀ {vs : List V} {us : List Value} {zs : List V} {ws : List Value}, Vals vs us → Vals zs ws → Vals (gV vs zs) (g us ws)
variable {g : List Value → List Value → List Value} {gV : List V → List V → List V}
end
structure Bq (N P : List Str) (sc : Scope) : Prop where
  kind : sc.kind = .function
  co : sc.isCoroutine = false
  gen : sc.isGenerator = false
  nd : N.Nodup
  pre : N.take P.length = P
  par : ∀ x ∈ P, sc.names.lookup x = some .local ∨ sc.names.lookup x = some .cell
  Hh : ∀ y ∈ sc.names, y.2 ≠ .free
theorem yR {kindOf : Str → Option NameKind} {x : Str} : ∀ {binds : List (Str × Value)} {m : Str → Option Value}, (∀ v, (x, v) ∉ binds) → bindL kindOf binds m x = m x
  | [], _, _ => rfl
  | (n, v) :: r, m, h => by
    unfold bindL
    rw [yR fun w hw => h w (BK hw)]
    split
    · have : x ≠ n := by rintro rfl; exact h v Bp
      simp [this]
    · rfl
theorem oA {kindOf : Str → Option NameKind} {x : Str} : ∀ {binds : List (Str × Value)} {m : Str → Option Value}, (∀ v, (x, v) ∉ binds) → bindC kindOf binds m x = m x
  | [], _, _ => rfl
  | (n, v) :: r, m, h => by
    unfold bindC
    rw [oA fun w hw => h w (BK hw)]
    split
    · rfl
    · have : x ≠ n := by rintro rfl; exact h v Bp
      simp [this]
theorem jE {kindOf : Str → Option NameKind} {x : Str} {v : Value} : ∀ {P : List Str} {vs : List Value} {i : Nat} {m : Str → Option Value}, P.Nodup → P[i]? = some x → vs[i]? = some v → kindOf x = some .local →
    bindL kindOf (P.zip vs) m x = some v
  | [], _, _, _, _, h, _, _ => by simp at h
  | _ :: _, [], _, _, _, _, h, _ => by simp at h
  | p :: P, w :: vs, 0, m, nd, h1, h2, hk => by
    simp at h1 h2; subst h1; subst h2
    show bindL kindOf ((p, w) :: P.zip vs) m p = _
    unfold bindL
    rw [yR fun v hv => (List.nodup_cons.mp nd).1 (List.of_mem_zip hv).1, if_pos hk]
    simp
  | p :: P, w :: vs, i + 1, m, nd, h1, h2, hk => by
    show bindL kindOf ((p, w) :: P.zip vs) m x = _
    unfold bindL
    exact jE (i := i) (List.nodup_cons.mp nd).2 (by simpa using h1) (by simpa using h2) hk
theorem sJ {kindOf : Str → Option NameKind} {x : Str} {v : Value} : ∀ {P : List Str} {vs : List Value} {i : Nat} {m : Str → Option Value}, P.Nodup → P[i]? = some x → vs[i]? = some v → kindOf x ≠ some .local →
    bindC kindOf (P.zip vs) m x = some v
  | [], _, _, _, _, h, _, _ => by simp at h
  | _ :: _, [], _, _, _, _, h, _ => by simp at h
  | p :: P, w :: vs, 0, m, nd, h1, h2, hk => by
    simp at h1 h2; subst h1; subst h2
    show bindC kindOf ((p, w) :: P.zip vs) m p = _
    unfold bindC
    rw [oA fun v hv => (List.nodup_cons.mp nd).1 (List.of_mem_zip hv).1, if_neg hk]
    simp
  | p :: P, w :: vs, i + 1, m, nd, h1, h2, hk => by
    show bindC kindOf ((p, w) :: P.zip vs) m x = _
    unfold bindC
    exact sJ (i := i) (List.nodup_cons.mp nd).2 (by simpa using h1) (by simpa using h2) hk
def start (N : List Str) (vs : List V) : St := vs.map some ++ List.replicate (N.length - vs.length) none
def Fo (CX : G8) (P : Program) (w : World) (K : Frag) (mg : Str → Option Value) (base : Heap) (N : List Str) (qual : Str) (scope : Scope) (f : Addr) (cd : Value) (A : Around) (outer : List Env) (s : Shared) (H : Hp) (E : XK) : Cx where
  prog := P
  w := w
  K := K
  mg := mg
  base := base
  A := A.deeper (envOfC qual scope s.heap.objs.size f cd)
  N := N
  s₀ := s
  H₀ := H
  env := envOfC qual scope s.heap.objs.size f cd
  outer := outer
  stack := envOfC qual scope s.heap.objs.size f cd :: outer
  ex := []
  calm := true
  fn := fun _ => true
  pn := []
  xe := fun e s' => wpAny (model P w) (A.deeper (envOfC qual scope s.heap.objs.size f cd)) (leaving (envOfC qual scope s.heap.objs.size f cd) e) (fun _ s'' => CX outer H s E e s'') (fun e' s'' => CX outer H s E e' s'') s'
theorem pL {sc : Scope} {n : Nat} {x : Str} (h : sc.names.lookup x = some .cell) : ∃ c, (cellsFrom n sc.names []).lookup x = some c := by
  have q := PySem.W.cellsFrom_some sc.names n [] (.inl h)
  exact Option.isSome_iff_exists.mp q
theorem AKC {CX : G8} {P : Program} {w : World} {K : Frag} {mg : Str → Option Value} {base : Heap} {N ps : List Str} {qual : Str} {scope : Scope} {f : Addr} {cd : Value} {A : Around} {outer : List Env} {s s1 : Shared} {H : Hp} {E : XK} {us : List Value} {vs : List V} (S : Bq N ps scope) (hd : A.handled = none) (e0 : QZ P w K mg base A outer s H) (hl : vs.length = ps.length) (r : Vals vs us) (x : InCallC s s.heap.objs.size (bindL (envOfC qual scope s.heap.objs.size f cd).kindOf (ps.zip us) fun _ => none) (cellsFrom (s.heap.objs.size + 1) scope.names []) (bindC (envOfC qual scope s.heap.objs.size f cd).kindOf (ps.zip us) fun _ => none) s1) :
    Inv (Fo CX P w K mg base N qual scope f cd A outer s H E) [] (start N vs) H s1 := by
  have hpl : ps.length ≤ N.length := by have := congrArg List.length S.pre; rw [List.length_take] at this; omega
  obtain ⟨h1, tk, rfl, hk⟩ := x.done
  have noA : ∀ b : Addr, b ∉ (Fo CX P w K mg base N qual scope f cd A outer s H E).ex := fun b z => absurd (show b ∈ ([] : List Addr) from z) (by simp)
  refine ⟨⟨e0.mod, S.kind, rfl, rfl, Nat.le_refl _, fun y z c h1 h2 => ?_, fun y hy => ?_, fun y c _ h => ?_, fun _ => hd, Around.frames_deeper e0.frames, .inr ⟨rfl, rfl⟩, fun b z => absurd z (noA b), e0.bs, e0.bsz, fun b _ _ => noA b, fun b z => absurd z (noA b), e0.HR, e0.frf⟩,
    rfl, e0.bare, Un.kept hk, ⟨_, x.toInCall.ns, fun i y v h1 h2 h3 => ?_⟩, fun y c h => ⟨_, x.cell y c h⟩, e0.hok.fresh (Nat.le_refl _), fun y c h => ?_, fun p hp => absurd (show p ∈ ([] : List (Addr × Obj)) from hp) (by simp), e0.hok.kept hk, ?_⟩
  · exact name_of_addr x.apart (PySem.mem_of_lookup h1) (PySem.mem_of_lookup h2)
  · have hy : scope.names.lookup y = some .cell ∨ scope.names.lookup y = some .free := hy
    rcases hy with hy | hy
    · exact pL hy
    · exact absurd rfl (S.Hh _ (PySem.mem_of_lookup hy))
  · exact Nat.le_of_lt (x.above y c (PySem.mem_of_lookup h))
  · have hi : i < vs.length := by
      unfold start at h2
      by_cases hi : i < vs.length
      · exact hi
      · rw [List.getElem?_append_right (by simpa using hi)] at h2
        rw [List.getElem?_replicate] at h2
        split at h2 <;> cases h2
    have ha : vs[i]? = some v := by
      unfold start at h2
      rw [List.getElem?_append_left (by simpa using hi), List.getElem?_map] at h2
      cases e : vs[i]? with
      | none => rw [e] at h2; cases h2
      | some a => rw [e] at h2; cases h2; rfl
    obtain ⟨u, hu, rv⟩ := r.get ha
    have hp : ps[i]? = some y := by
      rw [← S.pre, List.getElem?_take_of_lt (by omega)]; exact h1
    have ndP : ps.Nodup := by rw [← S.pre]; exact S.nd.sublist (List.take_sublist _ _)
    refine ⟨u, rv, ?_⟩
    rcases S.par y (List.mem_of_getElem? hp) with k | k
    · exact .inl ⟨k, jE ndP hp hu k⟩
    · obtain ⟨c, e⟩ := pL (n := s.heap.objs.size + 1) k
      refine .inr ⟨.inl k, c, e, ?_⟩
      have q := x.cell y c e
      rw [sJ ndP hp hu (by show scope.names.lookup y ≠ _; rw [k]; decide)] at q
      exact q
  · exact e0.hok.fresh (Nat.le_of_lt (x.above y c (PySem.mem_of_lookup h)))
  · unfold start
    show _ = N.length
    rw [List.length_append, List.length_map, List.length_replicate]
    omega
theorem sV {CX : G8} {P : Program} {w : World} {K : Frag} {mg : Str → Option Value} {base : Heap} {k : Nat} {f : Addr} {name qual : Str} {params : Arguments} {body : List Stmt} {scope : Scope} {dV kV doc pm cdv ct oc : Value} {an od : Option Addr} {osl : Array (Option Value)} {N ps : List Str} {sp : Sp} (lk : K.lookup f = some ⟨oc, od, .func (fnOf name qual params body scope dV kV doc pm an cdv ct), osl⟩) (hcd : codeIn K cdv qual = true) (S : Bq N ps scope) (len : ∀ vs H Q E, sp vs H Q E → vs.length = ps.length) (hbody : ∀ (A : Around) (outer : List Env) (s : Shared) (H : Hp) (vs : List V) (Q : VK) (E : XK), Ck k (A.deeper (envOfC qual scope s.heap.objs.size f cdv)) → sp vs H Q E →
      ∃ t, FZ (Fo CX P w K mg base N qual scope f cdv A outer s H E) body t ∧ t { nx := fun _ H' => Q .non H', rt := Q } (start N vs) H) :
    Er P w K mg base CX (k + 1) f (fnOf name qual params body scope dV kV doc pm an cdv ct) ps sp := by
  refine ⟨len, fun A outer s H args us vs Q E hr e0 hb r hsp => ?_⟩
  have hl := len _ _ _ _ hsp
  have KX : K.In s.heap := e0.mod.kin.keeps fun b o e => (e0.bs b o e).1
  have lim : s.heap.NoLimit := e0.mod.nolimit.keeps fun b o e => (e0.bs b o e).1
  have hkind : ∀ y ∈ ps.zip us, scope.names.lookup y.1 = some .local ∨ (scope.names.lookup y.1 = some .cell ∧ ((cellsFrom (s.heap.objs.size + 1) scope.names []).lookup y.1).isSome = true) := fun ⟨n, v⟩ hy => by
    rcases S.par n (List.of_mem_zip hy).1 with q | q
    · exact .inl q
    · exact .inr ⟨q, PySem.W.cellsFrom_some _ _ _ (.inl q)⟩
  refine codeAny_call_function hr.depth (KX _ _ lk) rfl S.co S.gen rfl (PySem.W.codeRec_of KX hcd) (hb _ _ _ _ ?_)
  refine wpAny_newFunctionEnv_cells S.kind hkind fun env he s1 x => ?_
  subst he
  refine ⟨lim.keeps x.toInCall.keep, codeAny_func ?_⟩
  obtain ⟨t, ht, hq⟩ := hbody A outer s H vs Q E (hr.deeper _) hsp
  have I : Inv (Fo CX P w K mg base N qual scope f cdv A outer s H E) [] (start N vs) H s1 := AKC S hr.hd e0 hl r x
  refine wpAny_mono (ht [] s1 (start N vs) H _ I hq) (fun fl s' hs => ?_) fun e s' hs => hs
  have fin : ∀ {σ' : St} {H' : Hp} {v : V} {u : Value}, Inv (Fo CX P w K mg base N qual scope f cdv A outer s H E) [] σ' H' s' → RelV v u → Q v H' → CE outer P w H s Q u s' :=
    fun {σ' H' v u} J rv q => ⟨v, H', J.os, J.bare, J.base, J.hok, rv, q⟩
  cases fl with
  | ret u =>
    obtain ⟨v, σ', H', J, rv, q⟩ := hs
    exact fin J rv q
  | next =>
    obtain ⟨σ', H', J, q⟩ := hs
    exact fin (v := V.non) (u := Value.none) J rfl q
  | brk =>
    obtain ⟨_, _, _, q⟩ := hs
    exact False.elim q
  | cont =>
    obtain ⟨_, _, _, q⟩ := hs
    exact False.elim q
end L2
namespace L2
open PySem PySem.Spec PyProof.Rows
section
variable {X : Cx} {x : Str} {p pos : Pos} {e : Expr} {es : List Expr} {t : TA} {id T : String} {r : List V → Hp → VK → Prop}
def J9 (r : List V → Hp → VK → Prop) (t : TA) : TE := fun σ H Q => t σ H fun vs H1 => r vs H1 Q
theorem Qo (hc : Gz X (.builtin id) r) (hg : Gl X x) (hm : X.mg x = none) (hv : bootBuiltins x = some (.builtin id)) (ha : PA X (e :: es) t) (hn : x ≠ "__name__" := by decide) (hdb : (x == ("__debug__" : Str)) = false := by decide)
    (he : starEach (e :: es) X.env = (false, eval e X.env) :: starEach es X.env := by rfl) (hpl : (backTo pos (starEach es X.env)).any (·.1) = false := by rfl) : PE X (.Call (.Name x p) (e :: es) [] pos) (J9 r t) := by
  intro pins s σ H Q I h
  refine wpAny_Call_Name_kw (PJ I hg hm hv ?_ hn hdb)
  exact PyProof.Rows.callWith_builtin1 (Bf (ha pos pins s σ H _ I h) fun us s1 ⟨vs, H1, I1, r1, q1⟩ => hc pins s1 σ H1 vs us Q I1 r1 q1) he hpl
theorem Wb (hc : Gz X (.type T) r) (hg : Gl X x) (hm : X.mg x = none) (hv : bootBuiltins x = some (.type T)) (ha : PA X (e :: es) t) (hn : x ≠ "__name__" := by decide) (hdb : (x == ("__debug__" : Str)) = false := by decide)
    (he : starEach (e :: es) X.env = (false, eval e X.env) :: starEach es X.env := by rfl) (hpl : (backTo pos (starEach es X.env)).any (·.1) = false := by rfl) : PE X (.Call (.Name x p) (e :: es) [] pos) (J9 r t) := by
  intro pins s σ H Q I h
  refine wpAny_Call_Name_kw (PJ I hg hm hv ?_ hn hdb)
  exact PyProof.Rows.callWith_type1 (Bf (ha pos pins s σ H _ I h) fun us s1 ⟨vs, H1, I1, r1, q1⟩ => hc pins s1 σ H1 vs us Q I1 r1 q1) he hpl
end
end L2
namespace HT
open PySem PyProof.Rows
section
open PySem.SeqAt
open PySem.AutoSeq1 (wpAny_loadPart')
open PySem.MeetsSeq PySem.MeetsSeq2 PySem.MeetsSeq3
end
section
variable {prog : Program} {w : World} {A : Around} {E : Value → Shared → Prop} {s : Shared}
def Di (n d : Nat) : Option Int → Nat
  | none => d
  | some v => if v < 0 then (v + (n : Int)).toNat else min v.toNat n
end
end HT
namespace L2
open PySem PySem.Spec PyProof.Rows
abbrev TO := St → Hp → (Option Int → Hp → Prop) → Prop
def PO (X : Cx) (e : Option Expr) (t : TO) : Prop :=
  ∀ (pins : List (Addr × Obj)) (s : Shared) (σ : St) (H : Hp) (Q : Option Int → Hp → Prop), Inv X pins σ H s → t σ H Q →
    wpAny (model X.prog X.w) X.A (evalPart e X.env) (fun u s' => ∃ o H', Inv X pins σ H' s' ∧ IsPart u o ∧ Q o H') X.xe s
def uP : TO := fun _ H Q => Q none H
def vH (t : TE) : TO := fun σ H Q => t σ H fun x H1 => ∃ i, x = .int i ∧ Q (some i) H1
theorem intsAre_of {ns : List Int} : ∀ {us : List Value}, Vals (ns.map V.int) us → IntsAre us ns := by
  induction ns with
  | nil => intro us r; rw [List.map_nil] at r; cases r; exact .nil
  | cons n ns ih =>
    intro us r
    rw [List.map_cons] at r
    cases r with
    | cons r1 r2 =>
      obtain ⟨t, e⟩ := r1
      subst e
      exact .cons n t (ih r2)
section
variable {X : Cx} {e : Expr} {te : TE} {lo hi : Option Expr} {tl th : TO} {pos p2 : Pos}
theorem ALt : PO X none uP := by
  intro pins s σ H Q I h
  rw [evalPart_none]
  exact wpAny_pure ⟨none, H, I, .none, h⟩
theorem ABK (h : PE X e te) : PO X (some e) (vH te) := by
  intro pins s σ H Q I hw
  rw [evalPart_some]
  refine Bf (h pins s σ H _ I hw) fun u s1 ⟨x, H1, I1, r1, q1⟩ => ?_
  obtain ⟨i, rfl, q⟩ := q1
  obtain ⟨t, rfl⟩ := r1
  exact ⟨some i, H1, I1, .int i t, q⟩
def oV (X : Cx) (r : V → Option Int → Option Int → Hp → VK → Prop) : Prop :=
  ∀ (pins : List (Addr × Obj)) (s : Shared) (σ : St) (H : Hp) (x : V) (v vl vu : Value) (lo hi : Option Int) (sl : Addr) (Q : VK), Inv X pins σ H s → RelV x v → s.heap.IsSliceOf sl vl vu .none → IsPart vl lo → IsPart vu hi → r x lo hi H Q →
    ∃ T id, typeLookup (.type T) "__getitem__" = pure (some (.builtin id)) ∧ s.TypeIs v T ∧ wpAny (model X.prog X.w) X.A (getItem v (.ref sl)) (EP X pins σ Q) X.xe s
def j0 (r : V → Option Int → Option Int → Hp → VK → Prop) (te : TE) (tl th : TO) : TE := fun σ H Q => te σ H fun x H1 => tl σ H1 fun l H2 => th σ H2 fun u H3 => r x l u H3 Q
theorem AAf {r : V → Option Int → Option Int → Hp → VK → Prop} (hr : oV X r) (he : PE X e te) (hl : PO X lo tl) (hu : PO X hi th) : PE X (.Subscript e (.Slice lo hi none p2) pos) (j0 r te tl th) := by
  intro pins s σ H Q I h
  refine Subscript_ (Bf (he pins s σ H _ I h) fun v s1 ⟨x, H1, I1, r1, q1⟩ => ?_)
  refine wpAny_Slice (Bf (hl pins s1 σ H1 _ I1 q1) fun vl s2 ⟨l, H2, I2, pl, q2⟩ => Bf (hu pins s2 σ H2 _ I2 q2) fun vu s3 ⟨u, H3, I3, pu, q3⟩ => ?_)
  rw [evalPart_none]
  refine wpAny_pure ?_
  have I4 : Inv X pins σ H3 { s3 with heap := s3.heap.push { cls := .type "slice", data := .fields #[vl, vu, .none] } } := I3.kept (t' := s3.toks) fun b ob q => Heap.get?_push_of_some _ q
  obtain ⟨T, id, hT, ht, hg⟩ := hr pins { s3 with heap := s3.heap.push { cls := .type "slice", data := .fields #[vl, vu, .none] } } σ H3 x v vl vu l u s3.heap.objs.size Q I4 r1 (Heap.IsSliceOf.new ..) pl pu q3
  show wpAny (model X.prog X.w) X.A (subscriptTail e (.Slice lo hi none p2) v (.ref s3.heap.objs.size)) (EP X pins σ Q) X.xe { s3 with heap := s3.heap.push { cls := .type "slice", data := .fields #[vl, vu, .none] } }
  exact tail_any (ops := [.ref s3.heap.objs.size, v]) ht hT hg (by with_unfolding_all rfl)
def RW (xs : List V) (lo hi : Option Int) : List V := (xs.drop (HT.Di xs.length 0 lo)).take (HT.Di xs.length xs.length hi - HT.Di xs.length 0 lo)
theorem zU (xs : List V) (lo hi : Option Int) : (RW xs lo hi).length ≤ xs.length := by
  unfold RW
  rw [List.length_take, List.length_drop]
  omega
end
end L2
namespace L2
open PySem PySem.Spec PyProof.Rows
def Dz (n : Nat) (i : Int) : Option Nat := if 0 ≤ i then (if i < n then some i.toNat else none) else if -(n : Int) ≤ i then some (i + n).toNat else none
def Cw {α : Type} (xs : List α) (i : Int) : Option α := (Dz xs.length i).bind fun j => xs[j]?
theorem rC {n : Nat} {i : Int} {j : Nat} (h : Dz n i = some j) : seqIndex? i n = some j ∧ j < n ∧ -(n : Int) ≤ i ∧ i < n := by
  unfold Dz at h
  by_cases h0 : 0 ≤ i
  · rw [if_pos h0] at h
    by_cases h1 : i < n
    · rw [if_pos h1] at h
      have e : i.toNat = j := Option.some.inj h
      exact ⟨by rw [seqIndex_of h0 h1, e], by omega, by omega, h1⟩
    · rw [if_neg h1] at h; cases h
  · rw [if_neg h0] at h
    by_cases h1 : -(n : Int) ≤ i
    · rw [if_pos h1] at h
      have e : (i + n).toNat = j := Option.some.inj h
      exact ⟨by rw [seqIndex_neg (by omega) h1, e], by omega, h1, by omega⟩
    · rw [if_neg h1] at h; cases h
theorem ZF {α : Type} {xs : List α} {i : Int} {v : α} (h : Cw xs i = some v) : ∃ j, seqIndex? i xs.length = some j ∧ xs[j]? = some v ∧ j < xs.length ∧ -(xs.length : Int) ≤ i ∧ i < xs.length := by
  unfold Cw at h
  cases e : Dz xs.length i with
  | none => rw [e] at h; cases h
  | some j =>
    rw [e] at h
    obtain ⟨h1, h2, h3, h4⟩ := rC e
    exact ⟨j, h1, h, h2, h3, h4⟩
def N5 (b : Expr) : Prop := ∀ o i, subscripted b false o i = operate [o, i] (getItem o i)
def K5 (X : Cx) (r : R2) : Prop :=
  ∀ (value slice : Expr) (pins : List (Addr × Obj)) (s : Shared) (σ : St) (H : Hp) (x y : V) (v u : Value) (Q : VK), Inv X pins σ H s → RelV x v → RelV y u → r x y H Q →
    subscripted slice false v u = operate [v, u] (getItem v u) → wpAny (model X.prog X.w) X.A (subscriptTail value slice v u) (EP X pins σ Q) X.xe s
def aU (X : Cx) (id : String) (r : V → List V → Hp → VK → Prop) : Prop :=
  ∀ (pins : List (Addr × Obj)) (s : Shared) (σ : St) (H : Hp) (x : V) (xs : List V) (v : Value) (us : List Value) (Q : VK), Inv X pins σ H s → RelV x v → Vals xs us → r x xs H Q →
    wpAny (model X.prog X.w) X.A (call (.builtin id) (v :: us)) (EP X pins σ Q) X.xe s
section
variable {X : Cx} {a b : Expr} {ta tb : TE} {pos : Pos}
theorem K5.or {r r' : R2} (h : K5 X r) (h' : K5 X r') : K5 X (fun x y H Q => r x y H Q ∨ r' x y H Q) := by
  intro value slice pins s σ H x y v u Q I rx ry q hs
  rcases q with q | q
  · exact h value slice pins s σ H x y v u Q I rx ry q hs
  · exact h' value slice pins s σ H x y v u Q I rx ry q hs
theorem Us {r : R2} (hr : K5 X r) (ha : PE X a ta) (hb : PE X b tb) (hs : N5 b) : PE X (.Subscript a b pos) (HB r ta tb) := by
  intro pins s σ H Q I h
  exact Subscript_ (bM ha hb I h fun v u s2 x y H2 I2 rx ry q => hr a b pins s2 σ H2 x y v u Q I2 rx ry q (hs _ _))
def iG (K : Frag) : R2 := fun x y H Q => ∃ p xs i v, x = .ref p ∧ y = .int i ∧ Bg K H p xs ∧ Cw xs i = some v ∧ Q v H
def sO (K : Frag) : R2 := fun x y H Q => ∃ p xs i v, x = .ref p ∧ y = .int i ∧ Dt K H p xs ∧ Cw xs i = some v ∧ Q v H
def nG : R2 := fun x y H Q => ∃ z i c, x = .str z ∧ y = .int i ∧ z.length ≤ sizeLine ∧ Cw z.cps.toList i = some c ∧ Q (.str ⟨#[c]⟩) H
theorem AHa : K5 X (iG X.K) := by
  intro value slice pins s σ H x y v u Q I rx ry h hs
  obtain ⟨p, xs, i, z, rfl, rfl, hq, he, q⟩ := h
  cases rx
  obtain ⟨t, rfl⟩ := ry
  obtain ⟨its, r, pl, hz⟩ := I.list hq
  obtain ⟨j, h1, h2, h3, h4, h5⟩ := ZF he
  obtain ⟨w, ew, rw'⟩ := r.get h2
  have hl := r.length
  have hn := Vj
  have fin : EP X pins σ Q w s := ⟨z, H, I, rw', q⟩
  by_cases h0 : 0 ≤ i
  · have hj : i.toNat = j := by
      rw [seqIndex_of h0 h5] at h1
      exact Option.some.inj h1
    exact item_listR pl.isList h0 (by omega) (by rw [hj]; simpa using ew) fin hs
  · have hj : (i + (its.toArray.size : Int)).toNat = j := by
      rw [seqIndex_neg (by omega) h4] at h1
      rw [List.size_toArray, ← hl]
      exact Option.some.inj h1
    exact subscriptTail_builtinR (x := w) pl.isList.typeIs slot_list_getitem.lookup
      (wpAny_getItem_list_neg (Q := fun r s' => r = w ∧ EP X pins σ Q r s') pl.isList (by omega) (by rw [List.size_toArray] <;> omega) (by omega) (by rw [hj]; simpa using ew) ⟨rfl, fin⟩) hs
theorem ABt : K5 X (sO X.K) := by
  intro value slice pins s σ H x y v u Q I rx ry h hs
  obtain ⟨p, xs, i, z, rfl, rfl, hq, he, q⟩ := h
  cases rx
  obtain ⟨t, rfl⟩ := ry
  obtain ⟨its, r, pl, hz⟩ := I.tuple hq
  obtain ⟨j, h1, h2, h3, h4, h5⟩ := ZF he
  obtain ⟨w, ew, rw'⟩ := r.get h2
  have hl := r.length
  have hn := Vj
  have fin : EP X pins σ Q w s := ⟨z, H, I, rw', q⟩
  exact subscriptTail_builtinR (x := w) pl.typeIs slot_tuple_getitem.lookup
    (getItem_tuple (j := j) (Q := fun r s' => r = w ∧ EP X pins σ Q r s') pl (by omega) (by omega) (by rw [List.size_toArray, ← hl]; exact h1) (by simpa using ew) ⟨rfl, fin⟩) hs
theorem AOf : K5 X nG := by
  intro value slice pins s σ H x y v u Q I rx ry h hs
  obtain ⟨z, i, c, rfl, rfl, hz, he, q⟩ := h
  obtain ⟨t, rfl⟩ := rx
  obtain ⟨t', rfl⟩ := ry
  obtain ⟨j, h1, h2, h3, h4, h5⟩ := ZF he
  have hl : z.cps.toList.length = z.length := by simp [Str.length]
  rw [hl] at h1 h4 h5
  have hn := Vj
  exact tail_any (typeIs_str s z t) slot_str_getitem.lookup (getItem_str (c := c) (by
    have e1 : decide (i < -(2 ^ 63 : Int)) = false := decide_eq_false (by omega)
    have e2 : decide (i ≥ 2 ^ 63) = false := decide_eq_false (by omega)
    rw [e1, e2, Bool.or_false]) (by rw [h1]; simpa using h2) ⟨.str ⟨#[c]⟩, H, I.tok _, ⟨_, rfl⟩, q⟩) hs
def Lx (K : Frag) : R2 := fun x y H Q => iG K x y H Q ∨ sO K x y H Q ∨ nG x y H Q
theorem Vr : K5 X (Lx X.K) := AHa.or (ABt.or AOf)
theorem AFX (its : List Value) (n j : Nat) (u : Value) : Obj.mapSeq (·.setIfInBounds j u) { cls := .type "list", data := .seq its.toArray n } = { cls := .type "list", data := .seq (its.set j u).toArray n } := by
  simp [Obj.mapSeq]
theorem Inv.lst {pins : List (Addr × Obj)} {σ : St} {H : Hp} {s : Shared} {p : Addr} {xs : List V} (I : Inv X pins σ H s) (h : H p = some (.lst xs)) :
    ∃ (its : List Value) (n : Nat), Vals xs its ∧ s.heap.get? p = some { cls := .type "list", data := .seq its.toArray n } ∧ xs.length ≤ sizeLine := by
  obtain ⟨z, its, n, r, e⟩ := I.hok p _ h
  exact ⟨its, n, r, e, z⟩
theorem Inv.AKl {pins : List (Addr × Obj)} {σ : St} {H : Hp} {s : Shared} {p : Addr} {xs ys : List V} {its its' : List Value} {n n' : Nat} {f : Obj → Obj} (I : Inv X pins σ H s) (h : H p = some (.lst xs)) (ho : s.heap.get? p = some { cls := .type "list", data := .seq its.toArray n }) (hf : f { cls := .type "list", data := .seq its.toArray n } = { cls := .type "list", data := .seq its'.toArray n' }) (r : Vals ys its') (hz : ys.length ≤ sizeLine) (t : Nat) :
    Inv X pins σ (upd H p (.lst ys)) { s with heap := s.heap.update p f, toks := t } := by
  have e : (s.heap.update p f).get? p = some { cls := .type "list", data := .seq its'.toArray n' } := by
    rw [Heap.get?_update_self f ho (by rw [hf] <;> rfl), hf]
  refine I.write (x := p) (e := p) (by rw [h]; trivial) (.inl rfl) (fun b u hb q => (Heap.get?_update_other _ _ (Ne.symm hb)).trans q) ⟨_, e⟩ ?_
  exact ⟨hz, its', n', r, e⟩
def Ka : V → V → V → Hp → (Hp → Prop) → Prop := fun o i v H Q => ∃ p xs k j, o = .ref p ∧ i = .int k ∧ H p = some (.lst xs) ∧ Dz xs.length k = some j ∧ Q (upd H p (.lst (xs.set j v)))
theorem set_list : uN X Ka := by
  intro pins s σ H o i v ov iv u Q I ro ri rv h
  obtain ⟨p, xs, k, j, rfl, rfl, hp, hj, q⟩ := h
  cases ro
  obtain ⟨t, rfl⟩ := ri
  obtain ⟨its, n, r, ho, hz⟩ := I.lst hp
  obtain ⟨h1, h2, h3, h4⟩ := rC hj
  have hl := r.length
  have hn := Vj
  have I' : Inv X pins σ (upd H p (.lst (xs.set j v))) { s with heap := s.heap.update p (Obj.mapSeq (·.setIfInBounds j u)) } :=
    I.AKl hp ho (AFX its n j u) (r.set rv j) (by rw [List.length_set]; exact hz) s.toks
  by_cases h0 : 0 ≤ k
  · have hk : k.toNat = j := by
      rw [seqIndex_of h0 h4] at h1
      exact Option.some.inj h1
    exact PySem.W.ki_setAt ho h0 (by omega) (by rw [List.size_toArray, ← hl]; exact h4) (by rw [hk]; exact ⟨_, I', q⟩)
  · have hk : (k + (its.toArray.size : Int)).toNat = j := by
      rw [seqIndex_neg (by omega) h3] at h1
      rw [List.size_toArray, ← hl]
      exact Option.some.inj h1
    exact PySem.W.ki_setBack ho (by omega) (by rw [List.size_toArray, ← hl]; exact h3) (by omega) (by rw [hk]; exact ⟨_, I', q⟩)
theorem AL5 (lo hi : Option Int) (n : Nat) : (sliceBounds lo hi none n).1 = ((HT.Di n 0 lo : Nat) : Int) ∧ (sliceBounds lo hi none n).2.1 = ((HT.Di n n hi : Nat) : Int) ∧ (sliceBounds lo hi none n).2.2 = 1 := by
  refine ⟨?_, ?_, rfl⟩
  · cases lo with
    | none => simp [sliceBounds, HT.Di]
    | some i =>
      simp only [sliceBounds, HT.Di, Option.getD_none, show (1 : Int) > 0 by decide, if_true]
      by_cases h : i < 0
      · simp only [h, if_true] <;> omega
      · simp only [h, if_false] <;> omega
  · cases hi with
    | none => simp [sliceBounds, HT.Di]
    | some i =>
      simp only [sliceBounds, HT.Di, Option.getD_none, show (1 : Int) > 0 by decide, if_true]
      by_cases h : i < 0
      · simp only [h, if_true] <;> omega
      · simp only [h, if_false] <;> omega
theorem ABn (its : List Value) (lo hi : Option Int) : slicePick its.toArray lo hi none = ((its.drop (HT.Di its.length 0 lo)).take (HT.Di its.length its.length hi - HT.Di its.length 0 lo)).toArray := by
  obtain ⟨h1, h2, h3⟩ := AL5 lo hi its.toArray.size
  unfold slicePick
  rw [h1, h2, h3]
  simp only [sliceRange_one, pick_run, List.size_toArray] <;> rfl
def xQ (K : Frag) : V → Option Int → Option Int → Hp → VK → Prop := fun x lo hi H Q => ∃ a xs, x = .ref a ∧ Bg K H a xs ∧ ∀ p, H p = none → Q (.ref p) (upd H p (.lst (RW xs lo hi)))
theorem AEa : oV X (xQ X.K) := by
  intro pins s σ H x v vl vu lo hi sl Q I rx hs pl pu h
  obtain ⟨a, xs, rfl, hx, q⟩ := h
  cases rx
  obtain ⟨its, r, ht, hz⟩ := I.list hx
  have hlen := r.length
  refine ⟨"list", _, slot_list_getitem.lookup, ht.isList.typeIs, ?_⟩
  refine wpAny_getItem_list_slice ht.isList hs pl pu .none (by simp) ?_ (by rw [List.size_toArray] <;> omega)
  rw [ABn, ← hlen]
  refine ⟨.ref s.heap.objs.size, _, I.laid (t' := s.toks) (o := .lst (RW xs lo hi)) (fun b ob q => Heap.get?_push_of_some _ q) (Nat.le_refl _) ?_, rfl, q _ (I.hok.fresh (Nat.le_refl _))⟩
  exact ⟨Nat.le_trans (zU xs lo hi) hz, _, 0, (r.drop (HT.Di xs.length 0 lo)).take (HT.Di xs.length xs.length hi - HT.Di xs.length 0 lo), Heap.get?_push_size _ rfl⟩
theorem AK4 : Gz X (.builtin "len") (fun xs H Q => ∃ p ys, xs = [.ref p] ∧ (Bg X.K H p ys ∨ Dt X.K H p ys) ∧ Q (.int ys.length) H) := by
  intro pins s σ H xs us Q I r h
  obtain ⟨p, ys, rfl, hq, q⟩ := h
  obtain ⟨u, rfl, rx⟩ := vals1 r
  cases rx
  have hn := Vj
  rcases hq with hq | hq
  · obtain ⟨its, r', pl, hz⟩ := I.list hq
    have hlen := r'.length
    exact Calls.call_len_list pl.isList (by simp only [List.size_toArray] <;> omega) ⟨.int ys.length, H, I.tok _, ⟨s.toks + 1, by rw [List.size_toArray, hlen]⟩, q⟩
  · obtain ⟨its, r', pl, hz⟩ := I.tuple hq
    have hlen := r'.length
    exact len_tuple pl (by simp only [List.size_toArray] <;> omega) ⟨.int ys.length, H, I.tok _, ⟨s.toks + 1, by rw [List.size_toArray, hlen]⟩, q⟩
theorem AKz : Gz X (.type "list") (fun xs H Q => ∃ p ys, xs = [.ref p] ∧ (Bg X.K H p ys ∨ Dt X.K H p ys) ∧ ∀ l, H l = none → Q (.ref l) (upd H l (.lst ys))) := by
  intro pins s σ H xs us Q I r h
  obtain ⟨p, ys, rfl, hq, q⟩ := h
  obtain ⟨u, rfl, rx⟩ := vals1 r
  cases rx
  have fin : ∀ (its : List Value), Vals ys its → ys.length ≤ sizeLine → ∀ (h' : Heap) (c' : Nat), (∀ b o', s.heap.get? b = some o' → h'.get? b = some o') →
      h'.get? s.heap.objs.size = some { cls := .type "list", dict := none, data := .seq its.toArray c', slots := #[] } → EP X pins σ Q (.ref s.heap.objs.size) { s with heap := h' } := fun its r' hz h' c' kp e =>
    ⟨.ref s.heap.objs.size, _, I.laid (t' := s.toks) kp (Nat.le_refl _) (show Em X.prog X.w _ h' _ (.lst ys) from ⟨hz, its, c', r', e⟩), rfl, q _ (I.hok.fresh (Nat.le_refl _))⟩
  rcases hq with hq | hq
  · obtain ⟨its, r', pl, hz⟩ := I.list hq
    have hlen := r'.length
    obtain ⟨o, ho, hc, n, hd⟩ := pl.isList
    exact call_list_seq p (.inl rfl) ho hc hd (fun h' c' kp e => fin its r' hz h' c' kp e) (by simp only [List.size_toArray] <;> omega)
  · obtain ⟨its, r', pl, hz⟩ := I.tuple hq
    have hlen := r'.length
    obtain ⟨o, ho, hc, n, hd⟩ := pl
    exact call_list_seq p (.inr rfl) ho hc hd (fun h' c' kp e => fin its r' hz h' c' kp e) (by simp only [List.size_toArray] <;> omega)
theorem ABg : Gz X (.type "tuple") (fun xs H Q => ∃ p ys, xs = [.ref p] ∧ ((Bg X.K H p ys ∧ ∀ l, H l = none → Q (.ref l) (upd H l (.tup ys))) ∨ (Dt X.K H p ys ∧ Q (.ref p) H))) := by
  intro pins s σ H xs us Q I r h
  obtain ⟨p, ys, rfl, h⟩ := h
  obtain ⟨u, rfl, rx⟩ := vals1 r
  cases rx
  rcases h with ⟨hq, q⟩ | ⟨hq, q⟩
  · obtain ⟨its, r', pl, hz⟩ := I.list hq
    have hlen := r'.length
    refine call_tuple_list pl.isList (fun h' kp => ?_) (by simp only [List.size_toArray] <;> omega)
    have I1 : Inv X pins σ H { s with heap := h' } := I.kept (t' := s.toks) kp
    have I2 : Inv X pins σ (upd H h'.objs.size (.tup ys)) { s with heap := h'.push { cls := .type "tuple", data := .seq its.toArray } } :=
      I1.laid (t' := s.toks) (fun b o e => Heap.get?_push_of_some _ e) (Nat.le_refl _) (show Em X.prog X.w _ _ _ (.tup ys) from ⟨hz, its, r', IsTup.new _ _⟩)
    exact ⟨.ref h'.objs.size, _, I2, rfl, q _ (I1.hok.fresh (Nat.le_refl _))⟩
  · obtain ⟨its, r', pl, hz⟩ := I.tuple hq
    exact call_tuple_same pl ⟨.ref p, H, I, rfl, q⟩
def cO (K : Frag) (T : String) (x : V) (H : Hp) : Prop := match x with
  | .str _ => T = "str"
  | .int _ => T = "int"
  | .ref p => (T = "list" ∧ ∃ xs, Bg K H p xs) ∨ (T = "tuple" ∧ ∃ o, K.lookup p = some o ∧ o.cls = .type "tuple" ∧ o.dict = none) ∨
      (T = "dict" ∧ ((∃ kvs, H p = some (.dK kvs)) ∨ ∃ kvs, H p = some (.dT kvs))) ∨ (T = "set" ∧ ∃ S n, H p = some (.set S n))
  | _ => False
theorem pJ {pins : List (Addr × Obj)} {σ : St} {H : Hp} {s : Shared} {T : String} {x : V} {v : Value} (I : Inv X pins σ H s) (r : RelV x v) (ty : cO X.K T x H) :
    s.TypeIs v T ∧ ∀ a, v = .ref a → ∃ ob, s.heap.get? a = some ob ∧ ob.dict = none := by
  cases x with
  | str z =>
    obtain ⟨t, rfl⟩ := r
    cases (show T = "str" from ty)
    exact ⟨typeIs_str s z t, fun _ e => nomatch e⟩
  | int i =>
    obtain ⟨t, rfl⟩ := r
    cases (show T = "int" from ty)
    exact ⟨typeIs_int s i t, fun _ e => nomatch e⟩
  | ref p =>
    cases r
    rcases ty with ⟨rfl, xs, hq⟩ | ⟨rfl, o, hk, hc, hd⟩ | ⟨rfl, hk⟩ | ⟨rfl, S, n, hk⟩
    · obtain ⟨its, _, pl, _⟩ := I.list hq
      refine ⟨pl.isList.typeIs, fun a e => ?_⟩
      cases e
      obtain ⟨o, n, e, c, hd, _⟩ := pl
      exact ⟨o, e, hd⟩
    · refine ⟨⟨o, I.DW p o hk, hc⟩, fun a e => ?_⟩
      cases e
      exact ⟨o, I.DW _ o hk, hd⟩
    · have z : ∃ o, s.heap.get? p = some o ∧ o.ExactDict := by
        rcases hk with ⟨kvs, hk⟩ | ⟨kvs, hk⟩
        · obtain ⟨_, _, _, _, o, _, _, e, ex, _⟩ := I.hok p _ hk
          exact ⟨o, e, ex⟩
        · obtain ⟨_, _, _, _, o, _, _, e, ex, _⟩ := I.hok p _ hk
          exact ⟨o, e, ex⟩
      obtain ⟨o, e, ex⟩ := z
      refine ⟨⟨o, e, ex.1⟩, fun a e2 => ?_⟩
      cases e2
      exact ⟨o, e, ex.2.1⟩
    · obtain ⟨o, _, _, _, e, ex, _⟩ := I.hok p _ hk
      refine ⟨⟨o, e, ex.1⟩, fun a e2 => ?_⟩
      cases e2
      exact ⟨o, e, ex.2.1⟩
  | _ => exact False.elim ty
def yX (K : Frag) (T : String) (r : V → List V → Hp → VK → Prop) (to : TE) : TE := fun σ H Q => to σ H fun x H1 => cO K T x H1 ∧ r x [] H1 Q
def Rn (K : Frag) (T : String) (r : V → List V → Hp → VK → Prop) (to : TE) (t : TA) : TE := fun σ H Q => to σ H fun x H1 => cO K T x H1 ∧ t σ H1 fun xs H2 => r x xs H2 Q
variable {o e : Expr} {es : List Expr} {to : TE} {t : TA} {name : Str} {apos cpos : Pos} {T id : String} {r : V → List V → Hp → VK → Prop}
theorem AGj (pa : PlainAttrs T) (slot : Slot T name id) (hty : typeOf (.builtin id) = pure (.type "method_descriptor")) (hm : aU X id r) (ho : PE X o to) (hbase : attributeBase o name X.env (eval o X.env) = eval o X.env := by rfl) (hline : (apos.endLine == cpos.line) = true := by rfl) : PE X (.Call (.Attribute o name apos) [] [] cpos) (yX X.K T r to) := by
  intro pins s σ H Q I h
  refine wpAny_Call_method0_late hbase hline (Bf (ho pins s σ H _ I h) fun v s1 ⟨x, H1, I1, r1, ty, q1⟩ => ?_)
  obtain ⟨h1, h2⟩ := pJ I1 r1 ty
  exact ⟨T, id, pa, slot, hty, h1, h2, Calls.callWith_builtin rfl (PySem.evalArgs_none (hm pins s1 σ H1 x [] v [] Q I1 r1 .nil q1))⟩
theorem YT (pa : PlainAttrs T) (slot : Slot T name id) (hty : typeOf (.builtin id) = pure (.type "method_descriptor")) (hm : aU X id r) (ho : PE X o to) (ha : PA X (e :: es) t) (hbase : attributeBase o name X.env (eval o X.env) = eval o X.env := by rfl) (hfew : ((backTo cpos (starEach (e :: es) X.env)).all (fun x => !x.1) && (backToKw cpos (keywordEach [] X.env)).all (fun x => x.1.isSome)
      && decide ((e :: es).length + ([] : List Keyword).length + (if ([] : List Keyword).isEmpty then 0 else 1) < 30)) = true := by rfl)
    (hline : (apos.endLine == cpos.line) = true := by rfl) (hs : starEach (e :: es) X.env = (false, eval e X.env) :: starEach es X.env := by rfl) (hplain : (backTo cpos (starEach es X.env)).any (·.1) = false := by rfl) :
    PE X (.Call (.Attribute o name apos) (e :: es) [] cpos) (Rn X.K T r to t) := by
  intro pins s σ H Q I h
  refine wpAny_Call_method_late hbase hfew hline rfl (Bf (ho pins s σ H _ I h) fun v s1 ⟨x, H1, I1, r1, ty, q1⟩ => ?_)
  obtain ⟨h1, h2⟩ := pJ I1 r1 ty
  refine ⟨T, id, pa, slot, hty, h1, h2, ?_⟩
  have hA := ha cpos pins s1 σ H1 _ I1 q1
  rw [hs] at hA ⊢
  refine Calls.callWith_builtin (by show (false || (backTo cpos (starEach es X.env)).any (·.1)) = false; rw [hplain] <;> rfl) (Calls.evalArgs_plain ?_)
  exact Bf hA fun us s2 ⟨vs, H2, I2, r2, q2⟩ => hm pins s2 σ H2 x vs v us Q I2 r1 r2 q2
/- xs.append(e), list.index on a module's tuple .. are aU facts of 06m -/
end
end L2
namespace L2
open PySem PySem.Spec PyProof.Rows
def Zc (X : Cx) (id : String) (r : V → List V → Hp → VK → Prop) : Prop :=
  ∀ (pins : List (Addr × Obj)) (s : Shared) (σ : St) (H : Hp) (x : V) (xs : List V) (v : Value) (us : List Value) (Q : VK), Inv X pins σ H s → RelV x v → Vals xs us → r x xs H Q →
    wpAny (model X.prog X.w) X.A (call (.builtin id) (v :: us)) (EP X pins σ Q) X.xe s
theorem Vals.one : ∀ {x : V} {us : List Value}, Vals [x] us → ∃ u, us = [u] ∧ RelV x u
  | _, _, .cons r .nil => ⟨_, rfl, r⟩
theorem Vals.zero : ∀ {us : List Value}, Vals [] us → us = []
  | _, .nil => rfl
theorem Vals.dropLast {xs : List V} {us : List Value} (h : Vals xs us) : Vals xs.dropLast us.dropLast := by
  induction h with
  | nil => exact .nil
  | cons r t ih =>
    cases t with
    | nil => exact .nil
    | cons q t' => exact .cons r ih
theorem Vals.eraseIdx : ∀ {xs : List V} {us : List Value} (i : Nat), Vals xs us → Vals (xs.eraseIdx i) (us.eraseIdx i)
  | _, _, _, .nil => .nil
  | _, _, 0, .cons _ t => t
  | _, _, i + 1, .cons r t => .cons r (Vals.eraseIdx i t)
theorem AFy {α : Type} (l : List α) : l.eraseIdx (l.length - 1) = l.dropLast := by
  induction l with
  | nil => rfl
  | cons a r ih =>
    cases r with
    | nil => rfl
    | cons b r =>
      have e : (a :: b :: r).length - 1 = ((b :: r).length - 1) + 1 := by
        have h1 : (a :: b :: r).length = r.length + 2 := rfl
        have h2 : (b :: r).length = r.length + 1 := rfl
        omega
      rw [e, List.eraseIdx_cons_succ, ih]
      all_goals rfl
theorem yC {α : Type} : ∀ (l : List α) (i : Nat), (l.eraseIdx i).length ≤ l.length
  | [], _ => Nat.le_refl _
  | _ :: _, 0 => Nat.le_succ _
  | _ :: r, i + 1 => Nat.succ_le_succ (yC r i)
section
variable {X : Cx} {pins : List (Addr × Obj)} {σ : St} {H : Hp} {s : Shared} {l b : Addr} {xs ys zs : List V}
theorem Inv.Zm {its its' : List Value} {n : Nat} {f : Array Value → Array Value} {t' : Nat} (I : Inv X pins σ H s) (hH : H l = some (.lst xs)) (e : s.heap.get? l = some { cls := .type "list", data := .seq its.toArray n }) (hf : f its.toArray = its'.toArray) (hv : Vals ys its') (hz : ys.length ≤ sizeLine) :
    Inv X pins σ (upd H l (.lst ys)) { s with heap := s.heap.update l (Obj.mapSeq f), toks := t' } := by
  have q := PySem.IsL.update e f
  rw [hf] at q
  refine I.write (x := l) (e := l) (by rw [hH]; exact trivial) (.inl rfl) (fun b' u hb hu => (Heap.get?_update_other s.heap (Obj.mapSeq f) (Ne.symm hb)).trans hu) ⟨_, q⟩ ?_
  exact ⟨hz, its', _, hv, q⟩
theorem Inv.jW {its : List Value} {t' : Nat} (I : Inv X pins σ H s) (hv : Vals ys its) (hz : ys.length ≤ sizeLine) :
    Inv X pins σ (upd H s.heap.objs.size (.lst ys)) { s with heap := s.heap.push { cls := .type "list", data := .seq its.toArray }, toks := t' } :=
  I.laid (fun _ _ q => Heap.get?_push_of_some _ q) (Nat.le_refl _) ⟨hz, its, 0, hv, Heap.get?_push_size _ rfl⟩
theorem Inv.fresh (I : Inv X pins σ H s) : H s.heap.objs.size = none := I.hok.fresh (Nat.le_refl _)
theorem Inv.Yp (I : Inv X pins σ H s) (hH : H l = some (.lst xs)) : xs.length ≤ sizeLine ∧ ∃ (its : List Value) (n : Nat), Vals xs its ∧ xs.length = its.length ∧ s.heap.get? l = some { cls := .type "list", data := .seq its.toArray n } := by
  obtain ⟨z, its, n, r, e⟩ := I.hok l _ hH
  exact ⟨z, its, n, r, r.length, e⟩
end
section
variable {X : Cx}
def Vf : V → List V → Hp → VK → Prop := fun x vs H Q => ∃ l xs y, x = .ref l ∧ vs = [y] ∧ H l = some (.lst xs) ∧ xs.length < sizeLine ∧ Q .non (upd H l (.lst (xs ++ [y])))
theorem fH : Zc X "list.append" Vf := by
  intro pins s σ H x vs v us Q I rx rv h
  obtain ⟨l, xs, y, rfl, rfl, hH, hz, q⟩ := h
  cases rx
  obtain ⟨u, rfl, ru⟩ := rv.one
  obtain ⟨z, its, n, r, hl, e⟩ := I.Yp hH
  refine call_meets F.slot_list_append ⟨_, e, rfl⟩ F.entry_list_append (F.args_list_append_2 _ _) (PySem.list_append l its.toArray n u (by rw [List.size_toArray]; omega)) ⟨e, ?_⟩
  refine ⟨.non, _, I.Zm (its' := its ++ [u]) hH e (by simp) (r.append (.cons ru .nil)) ?_, rfl, q⟩
  rw [List.length_append, List.length_singleton]
  omega
def vD : V → List V → Hp → VK → Prop := fun x vs H Q => ∃ l xs y, x = .ref l ∧ vs = [] ∧ H l = some (.lst xs) ∧ xs[xs.length - 1]? = some y ∧ Q y (upd H l (.lst xs.dropLast))
theorem AJM : Zc X "list.pop" vD := by
  intro pins s σ H x vs v us Q I rx rv h
  obtain ⟨l, xs, y, rfl, rfl, hH, hy, q⟩ := h
  cases rx
  have hus := rv.zero
  subst hus
  obtain ⟨z, its, n, r, hl, e⟩ := I.Yp hH
  obtain ⟨u, hu, ru⟩ := r.get hy
  have hy' : its.toArray[its.toArray.size - 1]? = some u := by
    show its.toArray[its.length - 1]? = some u
    rw [← Array.getElem?_toList, ← hl]
    exact hu
  refine call_meets F.slot_list_pop ⟨_, e, rfl⟩ F.entry_list_pop (F.args_list_pop_1 _) (MeetsSeq.list_pop_last l its.toArray n u hy' (by rw [List.size_toArray]; omega)) ⟨e, ?_⟩
  refine ⟨y, _, I.Zm (its' := its.dropLast) hH e ?_ r.dropLast ?_, ru, q⟩
  · show its.toArray.eraseIdxIfInBounds (its.toArray.size - 1) = its.dropLast.toArray
    rw [List.size_toArray, List.eraseIdxIfInBounds_toArray, AFy]
  · rw [List.length_dropLast]
    omega
def lC : V → List V → Hp → VK → Prop := fun x vs H Q => ∃ l xs i k y, x = .ref l ∧ vs = [.int i] ∧ H l = some (.lst xs) ∧ -(2 ^ 63) ≤ i ∧ i < 2 ^ 63 ∧ seqIndex? i xs.length = some k ∧ xs[k]? = some y ∧ Q y (upd H l (.lst (xs.eraseIdx k)))
theorem AI8 : Zc X "list.pop" lC := by
  intro pins s σ H x vs v us Q I rx rv h
  obtain ⟨l, xs, i, k, y, rfl, rfl, hH, h1, h2, hk, hy, q⟩ := h
  cases rx
  obtain ⟨u, rfl, ru⟩ := rv.one
  obtain ⟨t, rfl⟩ := ru
  obtain ⟨z, its, n, r, hl, e⟩ := I.Yp hH
  obtain ⟨w, hw, rw'⟩ := r.get hy
  refine call_meets F.slot_list_pop ⟨_, e, rfl⟩ F.entry_list_pop (F.args_list_pop_2 _ _)
    (MeetsSeq.list_pop_at l its.toArray n i t k w (fitsIndex_both h1 h2) (by rw [List.size_toArray, ← hl]; exact hk) (by rw [← Array.getElem?_toList]; exact hw) (by rw [List.size_toArray]; omega)) ⟨e, ?_⟩
  refine ⟨y, _, I.Zm (its' := its.eraseIdx k) hH e ?_ (r.eraseIdx k) ?_, rw', q⟩
  · show its.toArray.eraseIdxIfInBounds k = (its.eraseIdx k).toArray
    rw [List.eraseIdxIfInBounds_toArray]
  · have := yC xs k
    omega
end
section
variable {prog : Program} {w : World} {A : Around} {E : Value → Shared → Prop} {s : Shared}
set_option maxRecDepth 100000 in
end
end L2
namespace Att
open PySem PySem.W PySem.Calls PyProof.Rows
theorem AAv {P : Params} {h : Heap} : ∀ (ns : List Int) (vs : List Value), WellAll P h vs (ns.map WData.int) → IntsAre vs ns := by
  intro ns
  induction ns with
  | nil =>
    intro vs w
    rw [List.map_nil] at w
    cases w
    exact .nil
  | cons n ns ih =>
    intro vs w
    rw [List.map_cons] at w
    cases w with
    | cons a b =>
      cases a
      exact .cons _ _ (ih _ b)
theorem AAq {l : OpenLaw} {n : Nat} (hn : l.most = some n) {P : Params} {h : Heap} {args : List WData} {vals : List Value} (hpre : l.row.toRowW.claim.pre args = true) (hwl : WellAll P h vals args) :
    ∃ a vs ns, vals = [Value.ref a] ∧ args = [WData.list (ns.map WData.int)] ∧ h.get? a = some { cls := .type "list", data := .seq vs.toArray } ∧ IntsAre vs ns ∧ ns.length ≤ n := by
  have hsh : WShape.hasAll [] args [.list .int] = true := (pre_splitW hpre).1
  have hc : l.pre.holds [] { args := args } = true := (pre_splitW hpre).2
  obtain ⟨d, r, rfl, h1, h2⟩ := hasAllW_cons hsh
  obtain rfl := hasAllW_nil h2
  obtain ⟨xs, rfl, h3⟩ := hasW_list h1
  obtain ⟨ns, rfl⟩ := items_int h3
  have hlen : ns.length ≤ n := by
    unfold OpenLaw.pre at hc
    have h4 : (WTm.not (.lt (.lit (.int (n : Int))) (.len (.arg 0)))).holds [] { args := [.list (ns.map .int)] } = true := by
      have h4 := (holds_andW hc).1
      rw [hn] at h4
      exact h4
    have h5 := condW_of h4 (w_not (w_lt w_lit (w_len_list (w_arg rfl))))
    rw [List.length_map] at h5
    refine Nat.le_of_not_lt fun q => ?_
    have q' : (n : Int) < ((ns.length : Nat) : Int) := by omega
    first
      | (rw [decide_eq_true q'] at h5; exact absurd h5 (by decide))
      | (simp at h5; omega)
  cases hwl with
  | cons w1 w2 =>
    cases w2
    cases w1 with
    | list ho hall => exact ⟨_, _, ns, rfl, rfl, ho, AAv ns _ hall, hlen⟩
theorem AMc (l : OpenLaw) (args : List WData) : l.row.toRowW.claim.post args (.bool true) args = true :=
  postW_of (r := l.row.toRowW) (X := (true == true))
    (show WShape.has [] (.bool true) .bool = true by first | rfl | decide | simp [WShape.has, WShape.arms, WShape.armsAll])
    (show (WTm.eq .res (.lit (.bool true))).value [] { args := args, res := some (.bool true), after := args } = some (.bool (true == true)) from w_eq_bool (w_res rfl) w_lit) rfl
theorem AIa {l : OpenLaw} {n : Nat} {q : Program} {loose : List Str} {XP : (Str → Option Value) → Heap → Prop} {YP : World → Heap → Prop} {d : DefRec} (hn : l.most = some n) (hdf : d.params.defaults = []) (call : ∀ (w : World) (s₀ s₁ : Shared) (mg mb : Str → Option Value) (fa : Addr) (o : Obj) (pm cd doc : Value) (a : Addr) (vs : List Value) (ns : List Int),
      Ground q loose [] XP w s₀ mg mb s₁.heap → YP w s₁.heap →
      s₁.heap.get? fa = some o → o.data = .func (docDef d.name d.params d.body d.scope pm cd doc) → s₁.heap.CodeRec cd d.name → mg d.name = some (.ref fa) →
      s₁.heap.get? a = some { cls := .type "list", data := .seq vs.toArray } → IntsAre vs ns → ns.length ≤ n → s₁.gens = #[] →
      codeAny (model l.prog w) callerA (.call (.ref fa) ⟨[.ref a], []⟩) (fun r s' => r = .ok (.ret (.bool true)) ∧ OldK s₁.heap s'.heap ∧ s'.os = s₁.os ∧ AllBare s'.gens) s₁) :
    WalkO q loose XP YP l.row.toRowW d [] (fun f vs => PySem.call f vs) := by
  intro w s₀ s₁ mg mb G Y fa o pm cd doc dV kV ho hd hcd hD hmg hg args vals as hpre hlay hrd hwl hlo
  obtain rfl : dV = .none := Dflts.none hD hdf
  obtain rfl : kV = .none := Dflts.noKw hD
  obtain ⟨a, vs, ns, rfl, rfl, hobj, hints, hlen⟩ := AAq hn hpre hwl
  refine enter_call (codeAny_mono (call w s₀ s₁ mg mb fa o pm cd doc a vs ns G Y ho (fd_plain hd) hcd hmg hobj hints hlen hg) fun r s' hq => ?_)
  obtain ⟨rfl, h2, h3, h4⟩ := hq
  exact ⟨.inl ⟨.bool true, .bool true, [], rfl, fun _ => rfl, .bool true, AMc l _, fun _ => ⟨List.Pairwise.nil, fun _ hm => (nomatch hm)⟩⟩, h2, h3, h4⟩
section
variable {prog : Program} {w : World} {A : Around} {E : Value → Shared → Prop} {s : Shared} {K : Frag}
def ledger (h : Heap) (L d : Addr) : List (Addr × Obj) := (List.range h.objs.size).filterMap fun a => if a = L ∨ a = d then none else (h.get? a).map fun o => (a, o)
end
end Att
namespace L2
open PySem PySem.Spec PyProof.Rows
theorem lR : ∀ {vs : List Value} {ns : List Int}, IntsAre vs ns → Vals (ns.map V.int) vs
  | _, _, .nil => .nil
  | _, _, .cons n t h => .cons ⟨t, rfl⟩ (lR h)
def Xu (H : Hp) : Prop := ∀ b, H b = none ∨ ∃ o xs, H b = some (.frz o (.lst xs))
theorem ALi {P : Program} {w : World} {K : Frag} {mg mb : Str → Option Value} {CX : G8} {k : Nat} {fa a : Addr} {fd : FuncData} {x : Str} {sp : Sp} {s₁ : Shared} {vs : List Value} {ns : List Int} (KX : K.In s₁.heap) (hns : s₁.heap.Ns mainGlobals mg) (hb : s₁.heap.Ns builtinsNs mb) (hbb : ∀ x : Str, x ≠ "__name__" → mb x = bootBuiltins x) (hlim : s₁.heap.NoLimit) (hg : s₁.gens = #[]) (ha : s₁.heap.get? a = some { cls := .type "list", data := .seq vs.toArray }) (hi : IntsAre vs ns) (hl : ns.length ≤ sizeLine) (hr : Ck k callerA) (F : ∀ base : Heap, K.In base → base.Ns mainGlobals mg → Er P w K mg base CX k fa fd [x] sp) (hbind : ∀ (s : Shared) (u : Value), BindsTo s fd ⟨[u], []⟩ [(x, u)]) (hsp : ∀ H : Hp, Xu H → Bg K H a (ns.map V.int) → sp [.ref a] H (fun v _ => v = .bl true) fun _ _ _ => False) (hCX : ∀ H e s', CX [] H s₁ (fun _ _ _ => False) e s' → False) :
    codeAny (model P w) callerA (.call (.ref fa) ⟨[.ref a], []⟩) (fun r s' => r = .ok (.ret (.bool true)) ∧ OldK s₁.heap s'.heap ∧ s'.os = s₁.os ∧ AllBare s'.gens) s₁ := by
  have rv := lR hi
  have lenV := hi.length
  have core : ∀ H : Hp, Xu H → Bg K H a (ns.map V.int) → Ec P w H s₁.heap → (∀ b, H b ≠ none → b = a) → (H a ≠ none → K.lookup a = none) →
      codeAny (model P w) callerA (.call (.ref fa) ⟨[.ref a], []⟩) (fun r s' => r = .ok (.ret (.bool true)) ∧ OldK s₁.heap s'.heap ∧ s'.os = s₁.os ∧ AllBare s'.gens) s₁ := by
    intro H hO hS hok hA hK
    have base_of : ∀ {b : Addr} {o : Obj}, s₁.heap.get? b = some o → H b = none → (LC s₁.heap H).get? b = some o := fun e n => zR e n
    have noA : ∀ {b : Addr} {o : Obj} {es : Array DictEntry} {ep : Nat}, s₁.heap.get? b = some o → o.data = .dict es ep → H b = none := fun {b o es ep} e d => by
      cases q : H b with
      | none => rfl
      | some u =>
        have e' : b = a := hA b (by rw [q]; simp)
        subst e'
        rw [ha] at e; cases e
        have d' : Data.seq vs.toArray _ = Data.dict es ep := d
        cases d'
    have nsK : ∀ {b : Addr} {m : Str → Option Value}, s₁.heap.Ns b m → (LC s₁.heap H).Ns b m := fun {b m} ⟨o, es, ep, e, d, r⟩ => ⟨o, es, ep, base_of e (noA e d), d, r⟩
    have hKb : K.In (LC s₁.heap H) := fun b o e => base_of (KX b o e) (by
      cases q : H b with
      | none => rfl
      | some u =>
        have e' : b = a := hA b (by rw [q]; simp)
        subst e'
        rw [hK (by rw [q]; simp)] at e; cases e)
    have hM : Mod K mg (LC s₁.heap H) := ⟨hKb, nsK hns, ⟨mb, nsK hb, hbb⟩, let ⟨mc, h1, h2⟩ := hlim; ⟨mc, nsK h1, h2⟩⟩
    have e0 : QZ P w K mg (LC s₁.heap H) callerA [] s₁ H := ⟨rfl, hM, fun b o e => ADs e, Nat.le_of_eq (ALX _ _), trivial, fun b hb => absurd (show b ∈ ([] : List Addr) from hb) (by simp), hok, .of_eq hg⟩
    refine codeAny_mono ((F _ hKb (nsK hns)).run callerA [] s₁ H ⟨[.ref a], []⟩ [.ref a] [.ref a] _ _ hr e0 (hbind s₁ (.ref a)) (.cons rfl .nil) (hsp H hO hS)) fun r s' h => ?_
    cases r with
    | error e => exact (hCX H e s' h).elim
    | ok fl =>
      cases fl with
      | next => exact False.elim h
      | brk => exact False.elim h
      | cont => exact False.elim h
      | ret u =>
        obtain ⟨v, H', os, bare, un, hok', r', q⟩ := h
        have q' : v = .bl true := q
        subst q'
        obtain rfl : u = Value.bool true := r'
        refine ⟨rfl, OldK.of_keep fun b o e => ?_, os, bare⟩
        cases q : H b with
        | none => exact un.keep b o e q (by intro z; exact absurd (show b ∈ ([] : List Addr) from z) (by simp)) (by simp)
        | some u =>
          rcases hO b with z | ⟨ob, xs, z⟩
          · rw [q] at z; cases z
          · have z2 := un.frzs b ob _ z
            obtain ⟨e1, _⟩ := hok b _ z
            obtain ⟨e2, _⟩ := hok' b _ z2
            rw [e] at e1; cases e1
            exact e2
  cases hk : K.lookup a with
  | some o =>
    have e := KX a o hk
    rw [ha] at e
    cases e
    refine core (fun _ => none) (fun _ => .inl rfl) (.inr ⟨_, vs.toArray, _, hk, rfl, rfl, rfl, by rw [List.size_toArray, lenV]; exact hl, by simpa using rv⟩) (fun b u z => by have z' : (none : Option HO) = some u := z; cases z') (fun b z => absurd rfl z) fun z => absurd rfl z
  | none =>
    refine core (fun b => if b = a then some (.frz { cls := .type "list", data := .seq vs.toArray } (.lst (ns.map V.int))) else none) (fun b => ?_) (.inl (.inr ⟨{ cls := .type "list", data := .seq vs.toArray }, if_pos rfl⟩)) (fun b u z => ?_) (fun b z => ?_) fun _ => hk
    · by_cases hb : b = a
      · exact .inr ⟨_, _, if_pos hb⟩
      · exact .inl (if_neg hb)
    · by_cases hb : b = a
      · have z' := (if_pos hb).symm.trans z
        cases z'
        subst hb
        exact ⟨ha, by rw [List.length_map]; exact hl, vs, _, rv, ha⟩
      · have z' := (if_neg hb).symm.trans z
        cases z'
    · by_cases hb : b = a
      · exact hb
      · exact absurd (if_neg hb) z
end L2
namespace L2
open PySem PySem.Spec PyProof.Rows
abbrev u9 {K : Frag} {h : Heap} (_ : K.In h) : Frag := K
theorem wF {l : PySem.W.OpenLaw} {n k : Nat} {q : Program} {loose : List Str} {XP : (Str → Option Value) → Heap → Prop} {YP : World → Heap → Prop} {d : DefRec} {K : Params → Frag} {CX : World → G8} {sp : World → Sp} {x : Str} (hn : l.most = some n) (hn2 : n ≤ sizeLine) (hdf : d.params.defaults = []) (hr : Ck k callerA) (hY : ∀ (w : World) (h : Heap), YP w h → (K w.params).In h) (F : ∀ (w : World) (mg : Str → Option Value) (fa : Addr) (h : Heap), (K w.params).In h → h.Ns mainGlobals mg → mg d.name = some (.ref fa) →
      ∃ fd : FuncData, (∀ (s : Shared) (u : Value), BindsTo s fd ⟨[u], []⟩ [(x, u)]) ∧
        ∀ base : Heap, (K w.params).In base → base.Ns mainGlobals mg → Er l.prog w (K w.params) mg base (CX w) k fa fd [x] (sp w))
    (hsp : ∀ (w : World) (H : Hp) (a : Addr) (ns : List Int), ns.length ≤ n → Xu H → Bg (K w.params) H a (ns.map V.int) → sp w [.ref a] H (fun v _ => v = .bl true) fun _ _ _ => False)
    (hCX : ∀ (w : World) (H : Hp) (s : Shared) (e : Value) (s' : Shared), CX w [] H s (fun _ _ _ => False) e s' → False) :
    PySem.W.WalkO q loose XP YP l.row.toRowW d [] (fun f vs => PySem.call f vs) := by
  refine Att.AIa hn hdf fun w s₀ s₁ mg mb fa o pm cd doc a vs ns G Y ho hd hcd hmg hobj hints hlen hg => ?_
  have KX := hY w _ Y
  obtain ⟨fd, hb, hF⟩ := F w mg fa _ KX G.T.g hmg
  exact ALi KX G.T.g G.T.b G.T.builtins G.T.nolimit hg hobj hints (Nat.le_trans hlen hn2) hr hF hb (fun H hO hS => hsp w H a ns hlen hO hS) fun H e s' => hCX w H s₁ e s'
theorem AJf {l : PySem.W.OpenLaw} {n k : Nat} {q : Program} {loose : List Str} {XP : (Str → Option Value) → Heap → Prop} {YP : World → Heap → Prop} {d : DefRec} {K : Params → Frag} {CX : G8} {sp : Frag → Sp} {x : Str} (hn : l.most = some n) (hn2 : n ≤ sizeLine) (hdf : d.params.defaults = []) (hr : Ck k callerA) (hY : ∀ (w : World) (h : Heap), YP w h → (K w.params).In h) (F : ∀ (w : World) (mg : Str → Option Value) (fa : Addr) (h : Heap), (K w.params).In h → h.Ns mainGlobals mg → mg d.name = some (.ref fa) →
      ∃ fd : FuncData, (∀ (s : Shared) (u : Value), BindsTo s fd ⟨[u], []⟩ [(x, u)]) ∧
        ∀ base : Heap, (K w.params).In base → base.Ns mainGlobals mg → Er l.prog w (K w.params) mg base CX k fa fd [x] (sp (K w.params)))
    (hsp : ∀ (K : Frag) (H : Hp) (a : Addr) (ns : List Int), ns.length ≤ n → Xu H → Bg K H a (ns.map V.int) → sp K [.ref a] H (fun v _ => v = .bl true) fun _ _ _ => False)
    (hCX : ∀ (H : Hp) (s : Shared) (e : Value) (s' : Shared), CX [] H s (fun _ _ _ => False) e s' → False) :
    PySem.W.WalkO q loose XP YP l.row.toRowW d [] (fun f vs => PySem.call f vs) :=
  wF (K := K) (CX := fun _ => CX) (sp := fun w => sp (K w.params)) hn hn2 hdf hr hY F (fun w H a ns h1 h2 h3 => hsp (K w.params) H a ns h1 h2 h3) fun _ H s e s' => hCX H s e s'
end L2
/- THE LAST THEOREM (shape; LID, My.* are yours):
   My.Adr: a structure of the addresses that your layer names (classes, functions); My.Txt K t: a structure (Prop) of the equations over K;
   My.txt_mk : {K} {implicit addresses ..} (e1 : nsIn K mainGlobals "law" = some (some (.ref f))) (e2 : K.lookup f = some ⟨oc, od, .func (fnOf "law" "law" params body scope dV kV doc pm an cdv ct), sl⟩) (e3 : codeIn K cdv "law" = true) .. : ∃ t, My.Txt K t
set_option maxRecDepth 100000 in
set_option maxHeartbeats 0 in
theorem PySem.Challenge.cw_LID_holds : PySem.Challenge.rw_LID.Holds := by
  w_on; o_law; k_head; (case hw => w_witness2)
  k_fill
  refine L2.wF (l := PySem.Challenge.rw_LID) (n := 63) (k := 40) (x := "script") (CX := fun w => ..) (sp := fun _ => My.sp_law) rfl (by decide) rfl ⟨rfl, by decide, by decide⟩ (fun w h Y => PySem.W.kIn_of Y) ?F ?S ?C
  case F =>
    intro w mg fa h KX G hmg
    have T : ∃ t, My.Txt (L2.u9 KX) t := by
      dsimp only [L2.u9]                          -- K must stand as «<heap const> w.params» for k_is
      refine' My.txt_mk ?e1 ?e2 ?e3 ..
      (case e1 => PySem.W.k_is)                    -- in the order: a name -> its address -> its object -> its parts
      (case e2 => PySem.W.k_is)
      ..
    obtain ⟨t, T⟩ := T
    have e0 := hmg.symm.trans (mg_of KX G T.yJ)
    cases e0                                       -- fa is the law's own address
    exact ⟨_, fun s u => .of_eq rfl, fun base kb nb => My.law_fn T kb nb⟩     -- if «.of_eq rfl» comes too early: refine' ⟨_, ?b, fun base kb nb => My.law_fn T kb nb⟩; exact fun s u => .of_eq rfl
  case S => exact fun w H a ns hl hO hS => ..
  case C => exact ..
(the tactic k_is has no namespace: write k_is) -/
namespace L2
open PySem PySem.Spec PyProof.Rows
def Bw (s : Stmt) : Arguments := match s with
  | .FunctionDef _ a _ _ _ _ _ _ _ _ => a
  | _ => { posonlyargs := [], args := [], vararg := none, kwonlyargs := [], kw_defaults := [], kwarg := none, defaults := [] }
def Bk (s : Stmt) : List Stmt := match s with
  | .FunctionDef _ _ b _ _ _ _ _ _ _ => b
  | _ => []
def Av (s : Stmt) : Scope := match s with
  | .FunctionDef _ _ _ _ _ _ sc _ _ _ => sc
  | _ => { kind := .function, names := [], isGenerator := false, isCoroutine := false }
abbrev Gk : G8 := fun _ _ _ _ _ _ => False
abbrev E0 : XK := fun _ _ _ => False
theorem RT {X : Cx} : Passes Gk X E0 := fun _ _ _ _ _ _ _ h => h.elim
structure O3 (K : Frag) (x qual : Str) (st : Stmt) (f : Addr) (fd : FuncData) : Prop where
  ex : ∃ (oc : Value) (od : Option Addr) (kV doc pm : Value) (an : Option Addr) (cdv ct : Value) (osl : Array (Option Value)),
    fd = fnOf x qual (Bw st) (Bk st) (Av st) .none kV doc pm an cdv ct ∧ K.lookup f = some ⟨oc, od, .func fd, osl⟩ ∧ codeIn K cdv qual = true
  kp : keepIn K (.ref f) = true
section
variable {P : Program} {w : World} {K : Frag} {mg : Str → Option Value} {base : Heap}
theorem O3.ok {x qual : Str} {st : Stmt} {f : Addr} {fd : FuncData} {N ps : List Str} {k : Nat} {sp : Sp} (F : O3 K x qual st f fd) (S : Bq N ps (Av st)) (len : ∀ vs H Q E, sp vs H Q E → vs.length = ps.length) (hbody : ∀ (cdv : Value) (A : Around) (outer : List Env) (s : Shared) (H : Hp) (vs : List V) (Q : VK) (E : XK), Ck k (A.deeper (envOfC qual (Av st) s.heap.objs.size f cdv)) → sp vs H Q E →
      ∃ t, FZ (Fo Gk P w K mg base N qual (Av st) f cdv A outer s H E).Fe (Bk st) t ∧ t { nx := fun _ H' => Q .non H', rt := Q } (start N vs) H) : Er P w K mg base Gk (k + 1) f fd ps sp := by
  obtain ⟨oc, od, kV, doc, pm, an, cdv, ct, osl, rfl, lk, hcd⟩ := F.ex
  refine sV lk hcd S len fun A outer s H vs Q E hr hsp => ?_
  obtain ⟨t, h, q⟩ := hbody cdv A outer s H vs Q E hr hsp
  exact ⟨t, h.Fe, q⟩
theorem O3.binds {x qual : Str} {st : Stmt} {f : Addr} {fd : FuncData} {ps : List Str} (F : O3 K x qual st f fd) (h : ∀ (kV doc pm : Value) (an : Option Addr) (cdv ct : Value) (us : List Value), us.length = ps.length → bindArgs (fnOf x qual (Bw st) (Bk st) (Av st) .none kV doc pm an cdv ct) ⟨us, []⟩ = pure (ps.zip us)) : Binds K fd ps [] := by
  obtain ⟨oc, od, kV, doc, pm, an, cdv, ct, osl, rfl, lk, hcd⟩ := F.ex
  exact .all (h kV doc pm an cdv ct)
theorem lN {x qual : Str} {st : Stmt} {f : Addr} {oc : Value} {od an : Option Addr} {osl : Array (Option Value)} {kV doc pm cdv ct : Value} (l : K.lookup f = some ⟨oc, od, .func (fnOf x qual (Bw st) (Bk st) (Av st) .none kV doc pm an cdv ct), osl⟩) (c : codeIn K cdv qual = true) (k : keepIn K (.ref f) = true) : O3 K x qual st f (fnOf x qual (Bw st) (Bk st) (Av st) .none kV doc pm an cdv ct) := ⟨⟨oc, od, kV, doc, pm, an, cdv, ct, osl, rfl, l, c⟩, k⟩
end
section
variable {X : Cx}
theorem pv (i : Nat) {x : Str} {pos : Pos} (hN : X.N[i]? = some x := by rfl) (hv : Fx X.env.scope x := by first | exact Or.inl rfl | exact Or.inr (Or.inl rfl) | exact Or.inr (Or.inr rfl)) (hd : (x == ("__debug__" : Str)) = false := by decide)
    (hcd : (x == ("__classdict__" : Str)) = false := by decide) : PE X (.Name x pos) (Dm i) := JH hN hv hd hcd
end
def Ak (H H' : Hp) : Prop := ∀ b o, H b = some o → H' b = some o
theorem Ak.refl (H : Hp) : Ak H H := fun _ _ h => h
theorem Ak.trans {H H1 H2 : Hp} (a : Ak H H1) (b : Ak H1 H2) : Ak H H2 := fun c o h => b c o (a c o h)
theorem Ak.free {H H' : Hp} (e : Ak H H') {l : Addr} (h : H' l = Option.none) : H l = Option.none := by
  cases q : H l with
  | none => rfl
  | some o =>
    rw [e l o q] at h
    cases h
theorem Ak.seq {K : Frag} {H H' : Hp} {a : Addr} {xs : List V} (e : Ak H H') (h : Bg K H a xs) : Bg K H' a xs := by
  rcases h with (h | ⟨o, h⟩) | h
  · exact .inl (.inl (e _ _ h))
  · exact .inl (.inr ⟨o, e _ _ h⟩)
  · exact .inr h
end L2
set_option maxHeartbeats 4000000
namespace L2
open PySem PySem.Spec PyProof.Rows
def Dn (X : Cx) (N' : List Str) (scope : Scope) (cl : List (Str × Addr)) (fp : List Addr) (pins : List (Addr × Obj)) (s : Shared) (H : Hp) : Cx where
  prog := X.prog
  w := X.w
  K := X.K
  mg := X.mg
  base := X.base
  A := X.A
  N := N'
  s₀ := s
  H₀ := H
  env := compEnvC scope cl s.heap.objs.size X.env
  outer := X.stack
  stack := X.stack
  ex := fp
  fn := fun _ => false
  calm := X.calm
  pn := X.pn ++ pins
  xe := fun _ _ => False
def En (env : Env) : List (Str × NameKind) → List (Str × Addr) → List (Str × Addr)
  | [], acc => acc
  | (n, k) :: r, acc => if (k == NameKind.free) = true then En env r ((n, (env.cells.lookup n).getD 0) :: acc) else En env r acc
theorem mem_of_lookup {β : Type} : ∀ {l : List (Str × β)} {x : Str} {k : β}, l.lookup x = some k → (x, k) ∈ l
  | [], _, _, h => by simp at h
  | (n, j) :: r, x, k, h => by
    rw [List.lookup_cons] at h
    cases hx : x == n with
    | true =>
      rw [hx] at h
      have e : x = n := eq_of_beq hx
      subst e
      have e2 : j = k := by simpa using h
      subst e2
      exact Bp
    | false =>
      rw [hx] at h
      exact BK (mem_of_lookup (by simpa using h))
theorem Z1 {env : Env} {x : Str} {c : Addr} : ∀ (l : List (Str × NameKind)) (acc : List (Str × Addr)), (∀ y ∈ l, y.2 = .free → ∃ c, env.cells.lookup y.1 = some c) → (En env l acc).lookup x = some c → acc.lookup x = some c ∨ env.cells.lookup x = some c
  | [], acc, _, h => .inl h
  | (n, k) :: r, acc, hf, h => by
    have hr : ∀ y ∈ r, y.2 = .free → ∃ c, env.cells.lookup y.1 = some c := fun y hy => hf y (BK hy)
    unfold En at h
    by_cases hk : (k == NameKind.free) = true
    · rw [if_pos hk] at h
      rcases Z1 r _ hr h with h1 | h1
      · rw [List.lookup_cons] at h1
        cases hx : x == n with
        | true =>
          rw [hx] at h1
          have e : x = n := eq_of_beq hx
          subst e
          have hk' : k = .free := eq_of_beq hk
          obtain ⟨c', hc'⟩ := hf (x, k) Bp hk'
          have hc2 : env.cells.lookup x = some c' := hc'
          rw [hc2] at h1
          right
          rw [hc2]
          simpa using h1
        | false =>
          rw [hx] at h1
          exact .inl (by simpa using h1)
      · exact .inr h1
    · rw [if_neg hk] at h
      exact Z1 r _ hr h
theorem dC {env : Env} {x : Str} : ∀ (l : List (Str × NameKind)) (acc : List (Str × Addr)), ((x, NameKind.free) ∈ l ∨ ∃ c, acc.lookup x = some c) → ∃ c, (En env l acc).lookup x = some c
  | [], acc, h => by
    rcases h with h | h
    · cases h
    · exact h
  | (n, k) :: r, acc, h => by
    unfold En
    by_cases hk : (k == NameKind.free) = true
    · rw [if_pos hk]
      refine dC r _ ?_
      rcases h with h | ⟨c, h⟩
      · rcases List.mem_cons.mp h with e | e
        · injection e with e1 e2
          right
          refine ⟨(env.cells.lookup n).getD 0, ?_⟩
          rw [List.lookup_cons, e1]
          simp
        · exact .inl e
      · right
        rw [List.lookup_cons]
        cases hx : x == n with
        | true => exact ⟨_, rfl⟩
        | false => exact ⟨c, h⟩
    · rw [if_neg hk]
      refine dC r _ ?_
      rcases h with h | h
      · rcases List.mem_cons.mp h with e | e
        · injection e with e1 e2
          rw [← e2] at hk
          exact absurd (by rfl) hk
        · exact .inl e
      · exact .inr h
structure Xl (X : Cx) (scope : Scope) (cl : List (Str × Addr)) : Prop where
  clos : closureFor scope X.env = pure cl
  sub : ∀ x c, cl.lookup x = some c → X.env.cells.lookup x = some c
  has : ∀ x, ((relabel scope X.env).names.lookup x = some .cell ∨ (relabel scope X.env).names.lookup x = some .free) → ∃ c, cl.lookup x = some c
  kind : scope.kind = .function
  cell : ∀ y ∈ scope.names, y.2 ≠ .cell
  names : ∀ x ∈ scope.names, x.2 = .local → scope.names.lookup x.1 = some .local
theorem AGL {env : Env} {scope : Scope} (hf : ∀ y ∈ scope.names, y.2 = .free → ∃ c, env.cells.lookup y.1 = some c) : closureFor scope env = pure (En env scope.names []) := by
  unfold closureFor
  have key : ∀ (l : List (Str × NameKind)) (acc : List (Str × Addr)), (∀ y ∈ l, y.2 = .free → ∃ c, env.cells.lookup y.1 = some c) →
      (forIn l acc (fun (x : Str × NameKind) (r : List (Str × Addr)) => (if (x.2 == NameKind.free) = true then do let a ← cellOf env x.1; pure (ForInStep.yield ((x.1, a) :: r)) else pure (ForInStep.yield r) : Sem (ForInStep (List (Str × Addr)))))) = pure (En env l acc) := by
    intro l
    induction l with
    | nil => intro acc _; rfl
    | cons p r ih =>
      intro acc hf
      obtain ⟨n, k⟩ := p
      have hr : ∀ y ∈ r, y.2 = .free → ∃ c, env.cells.lookup y.1 = some c := fun y hy => hf y (BK hy)
      rw [List.forIn_cons]
      unfold En
      by_cases hk : (k == NameKind.free) = true
      · obtain ⟨c, hc⟩ := hf (n, k) Bp (eq_of_beq hk)
        have hc' : env.cells.lookup n = some c := hc
        have hcell : cellOf env n = pure c := by unfold cellOf; rw [hc']
        simp only [hk, if_true, hcell, hc', Option.getD_some]
        show (forIn r ((n, c) :: acc) _ : Sem _) = _
        exact ih _ hr
      · simp only [hk, if_false]
        show (forIn r acc _ : Sem _) = _
        exact ih _ hr
  have := key scope.names [] hf
  simpa using this
theorem xO {X : Cx} {scope : Scope} (ok : X.Ok) (kind : scope.kind = .function) (cell : ∀ y ∈ scope.names, y.2 ≠ .cell) (names : ∀ x ∈ scope.names, x.2 = .local → scope.names.lookup x.1 = some .local) (free : ∀ y ∈ scope.names, y.2 = .free → X.env.kindOf y.1 = some .cell ∨ X.env.kindOf y.1 = some .free) : Xl X scope (En X.env scope.names []) := by
  have hf : ∀ y ∈ scope.names, y.2 = .free → ∃ c, X.env.cells.lookup y.1 = some c := fun y hy e => ok.has y.1 (free y hy e)
  refine ⟨AGL hf, fun x c h => ?_, fun x h => ?_, kind, cell, names⟩
  · rcases Z1 scope.names [] hf h with h1 | h1
    · simp at h1
    · exact h1
  · refine dC scope.names [] (.inl ?_)
    have hm : ∃ k, (x, k) ∈ (relabel scope X.env).names ∧ (k = .cell ∨ k = .free) := by
      rcases h with h | h
      · exact ⟨_, mem_of_lookup h, .inl rfl⟩
      · exact ⟨_, mem_of_lookup h, .inr rfl⟩
    obtain ⟨k, hm, hk⟩ := hm
    obtain ⟨⟨n, j⟩, hn, e⟩ := List.mem_map.mp hm
    have e' : (if (j == NameKind.free && X.env.scope.kind == .function && X.env.kindOf n == some .cell) = true then (n, NameKind.cell) else (n, j)) = (x, k) := e
    by_cases hc : (j == NameKind.free && X.env.scope.kind == .function && X.env.kindOf n == some .cell) = true
    · rw [if_pos hc] at e'
      injection e' with e1 e2
      have hj : j = .free := by
        rw [Bool.and_eq_true, Bool.and_eq_true] at hc
        exact eq_of_beq hc.1.1
      rw [← e1, ← hj]
      exact hn
    · rw [if_neg hc] at e'
      injection e' with e1 e2
      rcases hk with hk | hk
      · exact absurd (e2.trans hk) (cell (n, j) hn)
      · rw [← e1, ← hk, ← e2]
        exact hn
def Je (X : Cx) (scope : Scope) : List (Nat × Str) → Prop
  | [] => True
  | p :: r => (X.N[p.1]? = some p.2 ∧ (X.env.scope.names.lookup p.2 = some .cell ∨ X.env.scope.names.lookup p.2 = some .free) ∧
      ((relabel scope X.env).names.lookup p.2 = some .cell ∨ (relabel scope X.env).names.lookup p.2 = some .free)) ∧ Je X scope r
theorem Je.mem {X : Cx} {scope : Scope} : ∀ {fv : List (Nat × Str)}, Je X scope fv → ∀ p ∈ fv, X.N[p.1]? = some p.2 ∧ (X.env.scope.names.lookup p.2 = some .cell ∨ X.env.scope.names.lookup p.2 = some .free) ∧
      ((relabel scope X.env).names.lookup p.2 = some .cell ∨ (relabel scope X.env).names.lookup p.2 = some .free)
  | [], _, p, hp => by cases hp
  | q :: r, h, p, hp => by
    rcases List.mem_cons.mp hp with e | e
    · rw [e]; exact h.1
    · exact Je.mem h.2 p e
def Gg (n : Nat) (fv : List (Nat × Str)) (σ : St) : St := List.replicate n none ++ fv.map fun p => (σ[p.1]?).join
theorem AHz (n : Nat) (fv : List (Nat × Str)) (σ : St) : (Gg n fv σ).length = n + fv.length := by
  simp [Gg]
theorem nT {n : Nat} {fv : List (Nat × Str)} {σ : St} {i : Nat} {v : V} (h : (Gg n fv σ)[i]? = some (some v)) : n ≤ i ∧ ∃ p, fv[i - n]? = some p ∧ σ[p.1]? = some (some v) := by
  unfold Gg at h
  by_cases hi : i < n
  · rw [List.getElem?_append_left (by simpa using hi), List.getElem?_replicate, if_pos hi] at h
    cases h
  · have hn : n ≤ i := by omega
    rw [List.getElem?_append_right (by simpa using hn), List.length_replicate, List.getElem?_map] at h
    refine ⟨hn, ?_⟩
    cases e : fv[i - n]? with
    | none => rw [e] at h; cases h
    | some p =>
      rw [e] at h
      refine ⟨p, rfl, ?_⟩
      have h' : (σ[p.1]?).join = some v := Option.some.inj h
      cases e2 : σ[p.1]? with
      | none => rw [e2] at h'; cases h'
      | some o =>
        rw [e2] at h'
        have h2 : o = some v := h'
        rw [h2]
section
variable {X : Cx} {pins : List (Addr × Obj)} {σ : St} {H : Hp} {s : Shared} {fp : List Addr} {scope : Scope} {cl : List (Str × Addr)} {own : List Str} {fv : List (Nat × Str)}
theorem qM (I : Inv X pins σ H s) (ck : Xl X scope cl) (hf : ∀ b ∈ fp, HX X pins H b) (hlt : ∀ b ∈ fp, b < s.heap.objs.size) : (Dn X (own ++ fv.map (·.2)) scope cl fp pins s H).Ok where
  mod := I.ok.mod
  kind := ck.kind
  glob := I.ok.glob
  blt := I.ok.blt
  above := Nat.le_refl _
  inj := fun x y c hx hy => I.ok.inj x y c (ck.sub x c hx) (ck.sub y c hy)
  has := fun x h => ck.has x h
  cab := fun x c h _ => Bool.noConfusion h
  hd := I.ok.hd
  frames := I.ok.frames
  stk := .inl rfl
  exf := fun b hb => ⟨Nat.ne_of_lt (hlt b hb), fun x c h => (hf b hb).2.2.2.2.1 x c (ck.sub x c h)⟩
  bs := I.bs
  bsz := Nat.le_trans I.ok.bsz I.sz
  noex := fun b o e hb => by
    rcases (hf b hb).2.2.2.1 with h | h
    · exact I.ok.noex b o e h
    · exact absurd (Nat.lt_of_lt_of_le (Heap.lt_size e) I.ok.bsz) (Nat.not_lt.mpr h)
  exfs := fun b hb h => by
    rcases List.mem_cons.mp (I.X7 b h) with e | e
    · exact (hf b hb).2.1 e
    · exact (hf b hb).2.2.1 e
  HR := I.stack
  frf := I.bQ
theorem ALW (I : Inv X pins σ H s) (ck : Xl X scope cl) (fo : Je X scope fv) (hf : ∀ b ∈ fp, HX X pins H b) (hlt : ∀ b ∈ fp, b < s.heap.objs.size) {h' : Heap} {tk : Nat} {m : Str → Option Value} (hns : h'.Ns s.heap.objs.size m) (keep : ∀ b o, s.heap.get? b = some o → h'.get? b = some o) :
    Inv (Dn X (own ++ fv.map (·.2)) scope cl fp pins s H) [] (Gg own.length fv σ) H { s with heap := h', toks := tk } where
  ok := qM I ck hf hlt
  os := rfl
  bare := I.bare
  base := Un.kept keep
  loc := by
    refine ⟨m, hns, fun i x v hi hv _ => ?_⟩
    obtain ⟨hn, p, hp, hσ⟩ := nT hv
    have hx : x = p.2 := by
      have hi' : (own ++ fv.map (·.2))[i]? = some x := hi
      rw [List.getElem?_append_right hn, List.getElem?_map, hp] at hi'
      exact (Option.some.inj hi').symm
    subst hx
    obtain ⟨hN, hk, hk'⟩ := fo.mem p (List.mem_of_getElem? hp)
    obtain ⟨m0, _, hl⟩ := I.loc
    obtain ⟨u, r, lk⟩ := hl p.1 p.2 v hN hσ (.inr hk)
    refine ⟨u, r, .inr ⟨hk', ?_⟩⟩
    rcases lk with ⟨lk, _⟩ | ⟨_, c, hc, ic⟩
    · have lk' : X.env.scope.names.lookup p.2 = some .local := lk
      rcases hk with hk | hk
      · rw [hk] at lk'; cases lk'
      · rw [hk] at lk'; cases lk'
    · obtain ⟨c', hc'⟩ := ck.has p.2 hk'
      have e := ck.sub _ _ hc'
      rw [hc] at e
      cases e
      obtain ⟨o, e1, e2⟩ := ic
      exact ⟨c, hc', o, keep _ _ e1, e2⟩
  cell := fun x c h => by
    obtain ⟨v, o, e1, e2⟩ := I.cell x c (ck.sub x c h)
    exact ⟨v, o, keep _ _ e1, e2⟩
  free := I.hok.fresh (Nat.le_refl _)
  freeC := fun x c h => I.freeC x c (ck.sub x c h)
  pin := fun p hp => by
    have hp' : p ∈ X.pn ++ pins := by
      have := List.mem_append.mp hp
      rcases this with h | h
      · exact h
      · cases h
    obtain ⟨e, n, nl, nf, nc⟩ := I.pin p hp'
    refine ⟨keep _ _ e, n, Nat.ne_of_lt (Heap.lt_size e), fun h => ?_, nc⟩
    rcases List.mem_cons.mp (I.X7 _ h) with z | z
    · exact nl z
    · exact nf z
  hok := I.hok.kept keep
  len := by
    rw [AHz]
    show _ = (own ++ fv.map (·.2)).length
    simp
theorem AIO (I : Inv X pins σ H s) (hf : ∀ b ∈ fp, HX X pins H b) {N' : List Str} {σ' : St} {H' : Hp} {s' : Shared} (I' : Inv (Dn X N' scope cl fp pins s H) [] σ' H' s') : Inv X pins σ H' s' :=
  I.uG (ch := fp) I'.os I'.base I'.hok I'.bare fun b hb => ⟨(hf b hb).2.2.2.1, (hf b hb).2.1, (hf b hb).2.2.2.2.1, (hf b hb).2.2.2.2.2⟩
theorem AOV (I : Inv X pins σ H s) {N' : List Str} {σ' : St} {H' : Hp} {s' : Shared} (I' : Inv (Dn X N' scope cl fp pins s H) [] σ' H' s') : (∃ m, s'.heap.Ns s.heap.objs.size m) ∧ H' s.heap.objs.size = none := by
  obtain ⟨m, h, _⟩ := I'.loc
  exact ⟨⟨m, h⟩, I'.free⟩
theorem AHw (I : Inv X pins σ H s) {Mj : List (Addr × Obj)} {σ1 : St} {H1 : Hp} {s1 : Shared} (I1 : Inv X Mj σ1 H1 s1) (hp : ∀ p ∈ Mj, p ∈ pins) (hn : H1 s.heap.objs.size = none) {h' : Heap} (sb : Heap.SameBut s.heap.objs.size s1.heap h') : Inv X Mj σ1 H1 { s1 with heap := h' } := by
  refine I1.turned (t' := s1.toks) (it := s.heap.objs.size) (fun b o hb e => sb.extBut b o hb e) hn (Ne.symm (Nat.ne_of_lt I.lt)) (.inr I.sz) (fun x c h => ?_) fun p hp' => ?_
  · obtain ⟨v, o, e1, _⟩ := I.cell x c h
    exact Nat.ne_of_lt (Heap.lt_size e1)
  · have hp2 : p ∈ X.pn ++ pins := by
      rcases List.mem_append.mp hp' with z | z
      · exact Cy z
      · exact Bj (hp p z)
    exact Nat.ne_of_lt (Heap.lt_size (I.pin p hp2).1)
end
section
variable {prog : Program} {w : World} {A : Around} {R : Result → Shared → Prop} {s : Shared}
theorem AJG {elt target iter : Expr} {ifs : List Expr} {scope : Scope} {pos : Pos} {it acc : Value} {env : Env} (I : Nat → Shared → Prop) (turn : ∀ n s, I n s → wpAny (model prog w) A (pyNext it) (fun r s₁ => match r with
      | none => R (.ok .next) s₁
      | some v => wpAny (model prog w) A (letOwnedTupleGo target it v) (fun _ s₀ => wpAny (model prog w) A (assign target env v) (fun _ s₂ =>
          wpAny (model prog w) A (forIn ifs true fun c r => if r = true then do let ok ← isTrue c env (eval c env); pure (ForInStep.yield ok) else pure (ForInStep.yield r)) (fun ok s₃ =>
            if ok = true then wpAny (model prog w) A (eval elt env) (fun x s₄ =>
              wpAny (model prog w) A (call (.builtin "list.append") [acc, x]) (fun _ s₅ => ∃ m, m < n ∧ I m s₅) (notedBy (model prog w) A env fun e s' => R (.error e) s') s₄) (notedBy (model prog w) A env fun e s' => R (.error e) s') s₃
            else ∃ m, m < n ∧ I m s₃) (notedBy (model prog w) A env fun e s' => R (.error e) s') s₂) (notedBy (model prog w) A env fun e s' => R (.error e) s') s₀) (notedBy (model prog w) A env fun e s' => R (.error e) s') s₁) (notedBy (model prog w) A env fun e s' => R (.error e) s') s)
    (n : Nat) (h : I n s) :
    codeAny (model prog w) A (.compLoop (.ListComp elt [⟨target, iter, ifs, 0⟩] scope pos) 0 it acc env) R s := by
  refine codeAny_loop rfl I (fun n s hI => ?_) n h
  show wpAny _ A ((compTurn (.ListComp elt [⟨target, iter, ifs, 0⟩] scope pos) 0 it acc env).onRaise (fun x => do noteFrame x env; theTreesLotGoes x)) _ _ s
  refine wpAny_noted ?_
  rw [compTurn_list]
  refine wpAny_bind (wpAny_standAt (wpAny_bind (wpAny_mono (turn n s hI) (fun r s₁ h₁ => ?_) fun _ _ h' => h')))
  cases r with
  | none => exact wpAny_pure h₁
  | some v =>
    refine wpAny_bind (wpAny_mono h₁ (fun _ s₀ h₀ => ?_) fun _ _ h' => h')
    refine wpAny_bind (wpAny_mono h₀ (fun _ s₂ h₂ => wpAny_bind (wpAny_mono h₂ (fun ok s₃ h₃ => ?_) fun _ _ h' => h')) fun _ _ h' => h')
    cases ok with
    | false => exact wpAny_pure ⟨rfl, h₃⟩
    | true =>
      exact wpAny_bind (wpAny_bind (wpAny_mono h₃ (fun x s₄ h₄ => wpAny_bind (wpAny_mono h₄ (fun _ s₅ h₅ => wpAny_pure (wpAny_pure ⟨rfl, h₅⟩)) fun _ _ h' => h')) fun _ _ h' => h'))
end
def Rz (X : Cx) (ifs : List Expr) (t : TT) : Prop :=
  ∀ (pins : List (Addr × Obj)) (s : Shared) (σ : St) (H : Hp) (Q : Bool → Hp → Prop), Inv X pins σ H s → t σ H Q →
    wpAny (model X.prog X.w) X.A (forIn ifs true fun c r => if r = true then do let ok ← isTrue c X.env (eval c X.env); pure (ForInStep.yield ok) else pure (ForInStep.yield r)) (TP X pins σ Q) X.xe s
def pA : TT := fun _ H Q => Q true H
theorem AHb {X : Cx} : Rz X [] pA := fun pins s σ H Q I h => wpAny_tests_nil ⟨H, I, h⟩
theorem ABo {X : Cx} {c : Expr} {t : TT} (h : PT X c t) : Rz X [c] t := fun pins s σ H Q I q => wpAny_tests_one (h pins s σ H Q I q)
def Mf (n : Nat) (g : TG) : Prop := ∀ v σ H Q, g v σ H Q → g v σ H fun σ' H' => (σ'.length = σ.length ∧ ∀ i, n ≤ i → σ'[i]? = σ[i]?) ∧ Q σ' H'
theorem G6 {n i : Nat} (h : i < n) : Mf n (FN i) := fun v σ H Q q => ⟨⟨by simp, fun j hj => by rw [List.getElem?_set_ne (by omega)]⟩, q⟩
theorem bY {n i j : Nat} {K : Frag} (h : i < n) (h' : j < n) : Mf n (Vd K 2 (Jg (FN i) (Jg (FN j) TF))) := fun v σ H Q q => by
  obtain ⟨a, xs, e, sq, l, v1, r, e1, v2, r2, e2, e3, q⟩ := q
  refine ⟨a, xs, e, sq, l, v1, r, e1, v2, r2, e2, e3, ⟨by simp, fun k hk => ?_⟩, q⟩
  rw [List.getElem?_set_ne (by omega), List.getElem?_set_ne (by omega)]
def yD (J : It) (g : TG) (tc : TT) (te : TE) (σ0 : St) (D : Addr) (Q : VK) (H : Hp) : Prop :=
  ∃ W : Nat → Nat → List V → Hp → Prop, (∃ m, W 0 m [] H) ∧ ∀ i m ys H, W i m ys H → H D = some (.lst ys) ∧
    ((J.stop i H ∧ Q (.ref D) H) ∨ (J.go i H ∧ ∃ N : List V → Hp → Prop, (∀ ys' H', N ys' H' → ∃ m', m' < m ∧ W (i + 1) m' ys' H') ∧ ∀ x H', J.yld i H x H' → g x σ0 H' fun σ2 H2 => tc σ2 H2 fun b H3 =>
      if b = true then te σ2 H3 fun v H4 => H4 D = some (.lst ys) ∧ ys.length < sizeLine ∧ N (ys ++ [v]) (upd H4 D (.lst (ys ++ [v])))
      else N ys H3))
def Mu (wi : TI) (g : TG) (tc : TT) (te : TE) (n : Nat) (fv : List (Nat × Str)) : TE := fun σ H Q => wi σ H fun J H1 => ∀ D, H1 D = none → yD J g tc te (Gg n fv σ) D Q (upd H1 D (.lst []))
section
variable {X : Cx} {tg elt iter : Expr} {ifs : List Expr} {scope : Scope} {own : List Str} {fv : List (Nat × Str)} {wi : TI} {g : TG} {tc : TT} {te : TE}
theorem qZ {pos pos' : Pos} {use : Option (Value → Sem Unit)} {pins : List (Addr × Obj)} {s : Shared} {σ : St} {H : Hp} {Q : Value → Shared → Prop} {R : VK} {cl : List (Str × Addr)} (hc : X.calm = true) (hi : PI X tg iter wi) (I : Inv X pins σ H s) (ck : Xl X scope cl) (fo : Je X scope fv) (gk : Mf own.length g) (bg : ∀ fp pins s H, PG (Dn X (own ++ fv.map (·.2)) scope cl fp pins s H) tg g) (bt : ∀ fp pins s H, Rz (Dn X (own ++ fv.map (·.2)) scope cl fp pins s H) ifs tc) (be : ∀ fp pins s H, PE (Dn X (own ++ fv.map (·.2)) scope cl fp pins s H) elt te) (hs : ∀ x, foldedSetIterable iter X.env x = pure x) (h : Mu wi g tc te own.length fv σ H R) (fin : ∀ D C H' s', Inv X pins σ H' s' → R (.ref D) H' → (∃ m, s'.heap.Ns C m) → H' C = none →
      (∀ Mj σ1 H1 s1 h', Inv X Mj σ1 H1 s1 → (∀ p ∈ Mj, p ∈ pins) → H1 C = none → Heap.SameBut C s1.heap h' → Inv X Mj σ1 H1 { s1 with heap := h' }) → (C ≠ X.env.locals ∧ C ∉ X.fs) →
      compPost (model X.prog X.w) X.A X.xe use Q (.ref D) C (.ok .next) s') :
    wpAny (model X.prog X.w) X.A (comprehension (.ListComp elt [⟨tg, iter, ifs, 0⟩] scope pos) scope X.env pos' (newList []) false (eval iter X.env) use) Q X.xe s := by
  refine wpAny_comprehension_free (use := use) (g := ⟨tg, iter, ifs, 0⟩) (gs := []) rfl hs ck.clos ck.kind ck.names (Bf (hi pins s σ H _ I h) fun v s1 h1 => Bf h1 fun itv s2 h2 => ?_)
  obtain ⟨it, fp, tn, J, H2, e, I2, T, st2, f2, RR⟩ := h2
  subst e
  refine wpAny_newObj_type (wpAny_newFunctionEnv ck.cell (by intro y hy; simp at hy) (fun h₁ hns₁ hsb₁ => ?_) ck.kind)
  dsimp only at hns₁ hsb₁ ⊢
  have hD := I2.fresh
  have I3 : Inv X pins σ (upd H2 s2.heap.objs.size (.lst [])) { s2 with heap := s2.heap.push { cls := .type "list", dict := none, data := .seq ([] : List Value).toArray }, toks := s2.toks } := I2.jW (its := []) .nil (Nat.zero_le _)
  obtain ⟨W, ⟨m0, w0⟩, turn⟩ := RR _ hD
  have olt : ∀ b ∈ fp, b < s2.heap.objs.size := fun b hb => by
    obtain ⟨o, e, _⟩ := T.obj _ _ st2 b hb
    exact Heap.lt_size e
  generalize hDD : s2.heap.objs.size = Da at *
  generalize hH3 : upd H2 Da (.lst []) = H3 at *
  have f3 : ∀ b ∈ fp, HX X pins H3 b := fun b hb => ⟨by rw [← hH3, Ba (Nat.ne_of_lt (olt b hb))]; exact (f2 b hb).1, (f2 b hb).2⟩
  generalize hs3 : ({ s2 with heap := s2.heap.push { cls := .type "list", dict := none, data := .seq ([] : List Value).toArray }, toks := s2.toks } : Shared) = s3 at *
  have e3 : s2.heap.push { cls := .type "list", dict := none, data := .seq ([] : List Value).toArray } = s3.heap := by rw [← hs3]
  rw [e3] at hns₁ hsb₁ ⊢
  have up2 : ∀ b o, s2.heap.get? b = some o → s3.heap.get? b = some o := fun b o e => by rw [← e3]; exact Heap.get?_push_of_some _ e
  have hlt : ∀ b ∈ fp, b < s3.heap.objs.size := fun b hb => by
    obtain ⟨o, e, _⟩ := T.obj _ _ st2 b hb
    exact Heap.lt_size (up2 _ _ e)
  have keep : ∀ b o, s3.heap.get? b = some o → h₁.get? b = some o := fun b o e => hsb₁.extBut b o (Nat.ne_of_lt (Heap.lt_size e)) (Heap.get?_push_of_some _ e)
  have stat : ∀ {H' : Hp}, (∀ b ∈ fp, H' b = none) → ∀ b ∈ fp, HX (Dn X (own ++ fv.map (·.2)) scope cl fp pins s3 H3) [] H' b := fun {H'} hn b hb => by
    have ok := qM (own := own) (fv := fv) I3 ck f3 hlt
    refine ⟨hn b hb, (ok.exf b hb).1, ok.exfs b hb, .inl hb, (ok.exf b hb).2, fun p hp => ?_⟩
    have hp' : p ∈ X.pn ++ pins := by
      rcases List.mem_append.mp hp with z | z
      · exact z
      · cases z
    exact (f3 b hb).2.2.2.2.2 p hp'
  have loop : ∀ s4 : Shared, Inv (Dn X (own ++ fv.map (·.2)) scope cl fp pins s3 H3) [] (Gg own.length fv σ) H3 s4 → tn 0 s4.heap →
      codeAny (model X.prog X.w) X.A (.compLoop (.ListComp elt [⟨tg, iter, ifs, 0⟩] scope pos) 0 (.ref it) (.ref Da) (compEnvC scope cl s3.heap.objs.size X.env)) (compPost (model X.prog X.w) X.A X.xe use Q (.ref Da) s3.heap.objs.size) s4 := by
    intro s4 I4 st4
    refine AJG (fun n s' => ∃ i ys H', Inv (Dn X (own ++ fv.map (·.2)) scope cl fp pins s3 H3) [] (Gg own.length fv σ) H' s' ∧ tn i s'.heap ∧ (∀ b ∈ fp, H' b = none) ∧ W i n ys H') ?_ m0
      ⟨0, [], H3, I4, st4, fun b hb => (f3 b hb).1, w0⟩
    rintro n s5 ⟨i, ys, H5, I5, st5, fr5, w5⟩
    obtain ⟨hDl, alt⟩ := turn i n ys H5 w5
    rcases alt with ⟨stop, qn⟩ | ⟨go, NN, hNN, step⟩
    · refine Bf (T.done (Dn X (own ++ fv.map (·.2)) scope cl fp pins s3 H3) rfl rfl rfl hc i [] s5 _ H5 _ I5 (stat fr5) st5 stop) fun r s6 ⟨hr, I6⟩ => ?_
      subst hr
      have hx := AOV I3 I6
      refine fin Da _ H5 s6 (AIO I3 f3 I6) qn hx.1 hx.2 (fun Mj σ1 H1 s1 h' J1 hp1 hn1 sb => AHw I3 J1 hp1 hn1 sb) ⟨Ne.symm (Nat.ne_of_lt I3.lt), I3.uR (Nat.le_refl _)⟩
    · refine Bf (T.item (Dn X (own ++ fv.map (·.2)) scope cl fp pins s3 H3) rfl rfl rfl hc i [] s5 _ H5 _ I5 (stat fr5) st5 go) fun r s6 ⟨u, hr, h6⟩ => ?_
      subst hr
      refine Bf h6 fun _ s7 ⟨x, H7, I7, r7, y7, st7, fr7⟩ => ?_
      have I7' := I7.pinned (stat fr7) (T.obj _ _ st7)
      refine wpAny_mono (bg fp pins s3 H3 _ s7 _ H7 x u _ I7' r7 (gk _ _ _ _ (step x H7 y7))) (fun _ s8 ⟨σ8, H8, I8, ⟨kl, kk⟩, q8⟩ => ?_) (fun _ _ f => f.elim)
      have weak : ∀ {H9 : Hp} {s9 : Shared}, Inv (Dn X (own ++ fv.map (·.2)) scope cl fp pins s3 H3) ([] ++ Vl fp s7.heap) σ8 H9 s9 →
          Inv (Dn X (own ++ fv.map (·.2)) scope cl fp pins s3 H3) [] (Gg own.length fv σ) H9 s9 ∧ tn (i + 1) s9.heap ∧ (∀ b ∈ fp, H9 b = none) := fun {H9 s9} I9 => by
        refine ⟨I9.V0.weak kl.symm (fun j v hj => ?_), T.keep _ _ _ st7 fun b hb o e => (I9.pin (b, o) (Bj (Bj (WW hb e)))).1, fun b hb => ?_⟩
        · rw [kk j (nT hj).1]
          exact hj
        · obtain ⟨o, e, d⟩ := T.obj _ _ st7 b hb
          exact (I9.pin (b, o) (Bj (Bj (WW hb e)))).2.1
      refine wpAny_mono (bt fp pins s3 H3 _ s8 σ8 H8 _ I8 q8) (fun b s9 ⟨H9, I9, q9⟩ => ?_) (fun _ _ f => f.elim)
      cases b with
      | false =>
        have q9' : NN ys H9 := q9
        obtain ⟨m', hm, w9⟩ := hNN _ _ q9'
        have wk := weak I9
        rw [if_neg Bool.false_ne_true]
        exact ⟨m', hm, i + 1, ys, H9, wk.1, wk.2.1, wk.2.2, w9⟩
      | true =>
        rw [if_pos rfl]
        rw [if_pos rfl] at q9
        refine wpAny_mono (be fp pins s3 H3 _ s9 σ8 H9 _ I9 q9) (fun y s10 ⟨v10, H10, I10, r10, d10, l10, n10⟩ => ?_) (fun _ _ f => f.elim)
        obtain ⟨m', hm, w10⟩ := hNN _ _ n10
        refine wpAny_mono (fH (X := Dn X (own ++ fv.map (·.2)) scope cl fp pins s3 H3) _ s10 σ8 H10 (.ref Da) [v10] (.ref Da) [y] (fun _ H11 => H11 = upd H10 Da (.lst (ys ++ [v10]))) I10 rfl (.cons r10 .nil) ⟨Da, ys, v10, rfl, rfl, d10, l10, rfl⟩)
          (fun _ s11 ⟨v11, H11, I11, _, e11⟩ => ?_) (fun _ _ f => f.elim)
        subst e11
        have wk := weak I11
        exact ⟨m', hm, i + 1, ys ++ [v10], _, wk.1, wk.2.1, wk.2.2, w10⟩
  have I4 : Inv (Dn X (own ++ fv.map (·.2)) scope cl fp pins s3 H3) [] (Gg own.length fv σ) H3 { s3 with heap := h₁, toks := s3.toks + ([] : List (Str × Value)).length } := ALW I3 ck fo f3 hlt hns₁ keep
  have st4 : tn 0 h₁ := T.keep _ _ _ st2 fun b hb o e => keep b o (up2 b o e)
  have hfin : ∀ s4 : Shared, s4 = { s3 with heap := h₁, toks := s3.toks + ([] : List (Str × Value)).length } →
      codeAny (model X.prog X.w) X.A (.compStart (.ListComp elt [⟨tg, iter, ifs, 0⟩] scope pos) 0 (.ref it) (.ref Da) (compEnvC scope cl s3.heap.objs.size X.env)) (compPost (model X.prog X.w) X.A X.xe use Q (.ref Da) s3.heap.objs.size) s4 := by
    rintro s4 rfl
    refine codeAny_compStart_list (loop _ I4 st4) (T.self _ 0 _ _ _ st4 (loop _ I4 st4))
  refine hfin _ ?_
  rw [← hs3]
def freeOk (X : Cx) (scope : Scope) : Bool := scope.names.all fun y => !(y.2 == NameKind.free) || (X.env.scope.names.lookup y.1 == some .cell) || (X.env.scope.names.lookup y.1 == some .free)
theorem freeOk.all {X : Cx} {scope : Scope} (h : freeOk X scope = true) : ∀ y ∈ scope.names, y.2 = .free → X.env.kindOf y.1 = some .cell ∨ X.env.kindOf y.1 = some .free := fun y hy e => by
  have z := List.all_eq_true.mp h y hy
  rw [Bool.or_eq_true, Bool.or_eq_true] at z
  rcases z with (z | z) | z
  · rw [e] at z
    exact absurd z (by decide)
  · exact .inl (eq_of_beq z)
  · exact .inr (eq_of_beq z)
theorem Hh {X : Cx} {scope : Scope} (h : ∀ y ∈ scope.names, y.2 ≠ .free) : freeOk X scope = true := List.all_eq_true.mpr fun y hy => by
  have z : (y.2 == NameKind.free) = false := by simpa using h y hy
  rw [z]
  rfl
theorem ACe {pos : Pos} (own : List Str) (fv : List (Nat × Str)) (hc : X.calm = true) (hi : PI X tg iter wi) (fo : Je X scope fv) (gk : Mf own.length g) (bg : ∀ fp pins s H, PG (Dn X (own ++ fv.map (·.2)) scope (En X.env scope.names []) fp pins s H) tg g) (bt : ∀ fp pins s H, Rz (Dn X (own ++ fv.map (·.2)) scope (En X.env scope.names []) fp pins s H) ifs tc) (be : ∀ fp pins s H, PE (Dn X (own ++ fv.map (·.2)) scope (En X.env scope.names []) fp pins s H) elt te) (kind : scope.kind = .function) (cell : ∀ y ∈ scope.names, y.2 ≠ .cell) (names : ∀ x ∈ scope.names, x.2 = .local → scope.names.lookup x.1 = some .local) (free : freeOk X scope = true) (hs : ∀ x, foldedSetIterable iter X.env x = pure x := by intro _; rfl) :
    PE X (.ListComp elt [⟨tg, iter, ifs, 0⟩] scope pos) (Mu wi g tc te own.length fv) := by
  intro pins s σ H Q I h
  rw [eval_ListComp]
  refine qZ (use := none) hc hi I (xO I.ok kind cell names (freeOk.all free)) fo gk bg bt be hs h fun D C H' s' I' q ⟨m, hm⟩ hn forget _ => ?_
  exact ⟨m, hm, fun h' sb => ⟨.ref D, H', forget pins σ H' s' h' I' (fun _ z => z) hn sb, rfl, q⟩⟩
theorem iI {pos spos py : Pos} {i : Nat} {y : Str} (own : List Str) (fv : List (Nat × Str)) (hN : X.N.Nodup) (hy : X.N[i]? = some y) (hx : Loc X.env.scope y) (hc : X.calm = true) (hi : PI X tg iter wi) (fo : Je X scope fv) (gk : Mf own.length g) (bg : ∀ fp pins s H, PG (Dn X (own ++ fv.map (·.2)) scope (En X.env scope.names []) fp pins s H) tg g) (bt : ∀ fp pins s H, Rz (Dn X (own ++ fv.map (·.2)) scope (En X.env scope.names []) fp pins s H) ifs tc) (be : ∀ fp pins s H, PE (Dn X (own ++ fv.map (·.2)) scope (En X.env scope.names []) fp pins s H) elt te) (kind : scope.kind = .function) (cell : ∀ y ∈ scope.names, y.2 ≠ .cell) (names : ∀ x ∈ scope.names, x.2 = .local → scope.names.lookup x.1 = some .local) (free : freeOk X scope = true) (hsw : swapsWith (.ListComp elt [⟨tg, iter, ifs, 0⟩] scope pos) (some (.Name y py)) spos.line X.env = pure true) (hs : ∀ x, foldedSetIterable iter X.env x = pure x := by intro _; rfl) (hf : X.fn y = true ∨ X.env.scope.names.lookup y = some .local := by first | exact Or.inl rfl | exact Or.inr rfl) :
    PS X (.Assign [.Name y py] (.ListComp elt [⟨tg, iter, ifs, 0⟩] scope pos) spos) (Ff (Mu wi g tc te own.length fv) (FN i)) := by
  intro pins s σ H D I h
  rw [exec_Assign_Name_used _ _ _ _ hsw]
  refine wpAny_bind (wpAny_standAt (wpAny_bind ?_))
  show wpAny _ X.A (do let _ ← comprehension (.ListComp elt [⟨tg, iter, ifs, 0⟩] scope pos) scope X.env _ (newList []) false (eval iter X.env) (some (assign (.Name y py) X.env))) _ _ s
  refine wpAny_bind (wpAny_mono (qZ (use := some (assign (.Name y py) X.env)) (Q := fun _ s' => SP X pins D .next s') hc hi I (xO I.ok kind cell names (freeOk.all free)) fo gk bg bt be hs h
    fun Da C H' s' I' q hm hn forget hC => ?_) (fun _ s' hq => wpAny_pure (wpAny_pure hq)) fun _ _ e => e)
  obtain ⟨m, o, es, ep, e, d, r⟩ := hm
  have I2 : Inv X (pins ++ [(C, o)]) σ H' s' := I'.ZK fun p hp => by
    rcases List.mem_append.mp hp with z | z
    · exact I'.pin p (Bj z)
    · rw [List.mem_singleton.mp z]
      exact ⟨e, hn, hC.1, hC.2, fun v z => by rw [d] at z; cases z⟩
  refine Bf (Jm hN hy hx hf _ s' σ H' (.ref Da) (.ref Da) _ I2 rfl q) fun _ s'' ⟨σ2, H2, I3, q2⟩ => ?_
  have pc := I3.pin (C, o) (Bj (Bj (List.mem_singleton.mpr rfl)))
  exact ⟨m, ⟨o, es, ep, pc.1, d, r⟩, fun h' sb => ⟨σ2, H2, forget pins σ2 H2 s'' h' I3.V0 (fun _ z => z) pc.2.1 sb, q2⟩⟩
theorem oN {J : It} {D : Addr} {n : Nat} {σ0 : St} {H : Hp} {Q : VK} (Pv : Nat → List V → Hp → Prop) (h0 : Pv 0 [] H) (hD : ∀ i ys H, Pv i ys H → H D = some (.lst ys)) (hgo : ∀ i ys H, i < n → Pv i ys H → J.go i H) (hs : ∀ i ys H x H', i < n → Pv i ys H → J.yld i H x H' → g x σ0 H' fun σ2 H2 => tc σ2 H2 fun b H3 =>
      if b = true then te σ2 H3 fun v H4 => H4 D = some (.lst ys) ∧ ys.length < sizeLine ∧ Pv (i + 1) (ys ++ [v]) (upd H4 D (.lst (ys ++ [v]))) else Pv (i + 1) ys H3)
    (hd : ∀ ys H, Pv n ys H → J.stop n H ∧ Q (.ref D) H) :
    yD J g tc te σ0 D Q H := by
  refine ⟨fun i m ys H => m = n - i ∧ i ≤ n ∧ Pv i ys H, ⟨n, by simp, Nat.zero_le _, h0⟩, ?_⟩
  rintro i m ys H ⟨rfl, hi, p⟩
  refine ⟨hD i ys H p, ?_⟩
  by_cases hlt : i < n
  · exact .inr ⟨hgo i ys H hlt p, Pv (i + 1), fun ys' H' z => ⟨n - (i + 1), by omega, rfl, hlt, z⟩, fun x H' y => hs i ys H x H' hlt p y⟩
  · have e : i = n := by omega
    subst e
    exact .inl (hd ys H p)
end
end L2
namespace L2
open PySem PySem.Spec PyProof.Rows
structure Callee (P : Program) (w : World) (K : Frag) (mg : Str → Option Value) (base : Heap) (k : Nat) (x : Str) (ps : List Str) (sp : Sp) : Prop where
  ex : ∃ (f : Addr) (fd : FuncData), Er P w K mg base Gk k f fd ps sp ∧ mg x = some (.ref f) ∧ keepIn K (.ref f) = true ∧ Binds K fd ps [] ∧ ∃ o, K.lookup f = some o ∧ o.data = .func fd
theorem Callee.mono {P : Program} {w : World} {K : Frag} {mg : Str → Option Value} {base : Heap} {j k : Nat} {x : Str} {ps : List Str} {sp : Sp} (C : Callee P w K mg base j x ps sp) (h : j ≤ k) : Callee P w K mg base k x ps sp := by
  obtain ⟨f, fd, F, r⟩ := C.ex
  exact ⟨f, fd, F.mono h, r⟩
theorem Callee.imp {P : Program} {w : World} {K : Frag} {mg : Str → Option Value} {base : Heap} {k : Nat} {x : Str} {ps : List Str} {sp sp' : Sp} (C : Callee P w K mg base k x ps sp) (h : ∀ vs H Q E, sp' vs H Q E → sp vs H Q E) : Callee P w K mg base k x ps sp' := by
  obtain ⟨f, fd, F, r⟩ := C.ex
  exact ⟨f, fd, F.imp h, r⟩
structure Def (K : Frag) (mg : Str → Option Value) (x : Str) (st : Stmt) (ps : List Str) : Prop where
  ex : ∃ (f : Addr) (fd : FuncData), O3 K x x st f fd ∧ mg x = some (.ref f) ∧ Binds K fd ps [] ∧ ∀ (s : Shared) (us : List Value), us.length = ps.length → BindsTo s fd ⟨us, []⟩ (ps.zip us)
section
variable {P : Program} {w : World} {K : Frag} {mg : Str → Option Value} {base : Heap}
theorem Def.ok {x : Str} {st : Stmt} {N ps : List Str} {k : Nat} {sp : Sp} (D : Def K mg x st ps) (S : Bq N ps (Av st)) (len : ∀ vs H Q E, sp vs H Q E → vs.length = ps.length) (hbody : ∀ (f : Addr) (cdv : Value) (A : Around) (outer : List Env) (s : Shared) (H : Hp) (vs : List V) (Q : VK) (E : XK), Ck k (A.deeper (envOfC x (Av st) s.heap.objs.size f cdv)) → sp vs H Q E →
      ∃ t, FZ (Fo Gk P w K mg base N x (Av st) f cdv A outer s H E).Fe (Bk st) t ∧ t { nx := fun _ H' => Q .non H', rt := Q } (start N vs) H) : Callee P w K mg base (k + 1) x ps sp := by
  obtain ⟨f, fd, F, m, b, _⟩ := D.ex
  obtain ⟨oc, od, kV, doc, pm, an, cdv, ct, osl, _, lk, _⟩ := F.ex
  exact ⟨f, fd, F.ok S len (fun cdv A outer s H vs Q E hr h => hbody f cdv A outer s H vs Q E hr h), m, F.kp, b, _, lk, rfl⟩
theorem AGe {x : Str} {st : Stmt} {k : Nat} {sp : Sp} {fa : Addr} (D : Def K mg x st ["script"]) (hfa : mg x = some (.ref fa)) (C : ∀ base : Heap, K.In base → base.Ns mainGlobals mg → Callee P w K mg base k x ["script"] sp) :
    ∃ fd : FuncData, (∀ (s : Shared) (u : Value), BindsTo s fd ⟨[u], []⟩ [("script", u)]) ∧ ∀ base : Heap, K.In base → base.Ns mainGlobals mg → Er P w K mg base Gk k fa fd ["script"] sp := by
  obtain ⟨f, fd, F, m, b, bt⟩ := D.ex
  obtain ⟨oc, od, kV, doc, pm, an, cdv, ct, osl, _, lk, _⟩ := F.ex
  refine ⟨fd, fun s u => bt s [u] rfl, fun base kb nb => ?_⟩
  obtain ⟨f', fd', F', m', _, _, o, lk', e⟩ := (C base kb nb).ex
  rw [m] at hfa
  cases hfa
  rw [m] at m'
  cases m'
  rw [lk] at lk'
  cases lk'
  cases e
  exact F'
theorem Cp {h : Heap} {x : Str} {st : Stmt} {ps : List Str} {f : Addr} {oc : Value} {od an : Option Addr} {osl : Array (Option Value)} {kV doc pm cdv ct : Value} (X : K.In h) (G : h.Ns mainGlobals mg) (hb : ∀ (kV doc pm : Value) (an : Option Addr) (cdv ct : Value) (us : List Value), us.length = ps.length → bindArgs (fnOf x x (Bw st) (Bk st) (Av st) .none kV doc pm an cdv ct) ⟨us, []⟩ = pure (ps.zip us)) (a : nsIn K mainGlobals x = some (some (.ref f))) (l : K.lookup f = some ⟨oc, od, .func (fnOf x x (Bw st) (Bk st) (Av st) .none kV doc pm an cdv ct), osl⟩) (c : codeIn K cdv x = true) (k : keepIn K (.ref f) = true) : Def K mg x st ps := by
  have F := lN (st := st) l c k
  exact ⟨f, _, F, mg_of X G a, F.binds hb, fun s us hl => .of_eq (hb _ _ _ _ _ _ us hl)⟩
end
section
variable {X : Cx} {k : Nat} {x : Str} {ps : List Str} {sp : Sp} {p pos : Pos} {e : Expr} {es : List Expr} {t : TA}
theorem fU (C : Callee X.prog X.w X.K X.mg X.base k x ps sp) (hr : Ck k X.A) (hg : Gl X x) (ha : PA X (e :: es) t) (hdb : (x == ("__debug__" : Str)) = false := by decide)
    (hst : starEach (e :: es) X.env = (false, eval e X.env) :: starEach es X.env := by rfl) (hpl : (backTo pos (starEach es X.env)).any (·.1) = false := by rfl) : PE X (.Call (.Name x p) (e :: es) [] pos) (Uh sp [] E0 t) := by
  obtain ⟨f, fd, F, m, kp, b, _⟩ := C.ex
  exact AI0 F hr hg m kp b .nil RT ha hdb hst hpl
end
section
variable {X : Cx}
inductive BT (H : Hp) : V → String → Prop where
  | non : BT H .non "NoneType"
  | bl (x : Bool) : BT H (.bl x) "bool"
  | int (i : Int) : BT H (.int i) "int"
  | str (x : Str) : BT H (.str x) "str"
  | lst {a : Addr} {xs : List V} (e : H a = some (.lst xs)) : BT H (.ref a) "list"
  | tup {a : Addr} {xs : List V} (e : H a = some (.tup xs)) : BT H (.ref a) "tuple"
  | dct {a : Addr} {kvs : List (Key × V)} (e : H a = some (.dK kvs)) : BT H (.ref a) "dict"
def Ip (T U : String) : Bool := T == U || (T == "bool" && U == "int")
theorem PX (K : Frag) (T U : String) (hT : T ∈ ["NoneType", "bool", "int", "str", "list", "tuple", "dict"]) (hU : U ∈ ["bool", "int", "str", "list", "tuple"]) : kitOne K (.type T) (.type U) = some (Ip T U) := by
  simp only [List.mem_cons, List.mem_nil_iff, or_false] at hT hU
  rcases hT with rfl | rfl | rfl | rfl | rfl | rfl | rfl <;> rcases hU with rfl | rfl | rfl | rfl | rfl <;> with_unfolding_all rfl
end
structure Lk (K : Frag) (C : Addr) : Prop where
  ns : nsIn K mainGlobals "Keeper" = some (some (.ref C))
  cl : Hc K C
  ha : findIn K (.ref C) "__class__" = some (some (.builtin "object.__class__"))
  hn : PySem.W.specialIn K (.builtin "object.__class__") "__get__" = some (some (.builtin "getset_descriptor.__get__"))
  htk : PySem.W.takesIn K (.builtin "object.__class__") = some true
  hm : mroIn K C (.type "object") = some true
  ki : ∀ U ∈ ["bool", "int", "str", "list", "tuple"], kitOne K (.ref C) (.type U) = some false
def Dq (ks : List Str) (ds : List PyData) : List (PyData × PyData) := (.none, .none) :: (ks.zip ds).map fun p => (.str p.1, p.2)
mutual
inductive Rep (K : Frag) (H : Hp) : V → PyData → Prop
  | non : Rep K H .non .none
  | bl (b : Bool) : Rep K H (.bl b) (.bool b)
  | int (i : Int) : Rep K H (.int i) (.int i)
  | str (x : Str) : Rep K H (.str x) (.str x)
  | lst {a : Addr} {xs : List V} {ds : List PyData} : Bg K H a xs → BL K H xs ds → Rep K H (.ref a) (.list ds)
  | tup {a : Addr} {xs : List V} {ds : List PyData} : Dt K H a xs → BL K H xs ds → Rep K H (.ref a) (.tuple ds)
  | dic {a : Addr} {kvs : List (Key × V)} : H a = some (.dK kvs) → Rep K H (.ref a) (.dict [])
  | obj {a C dx : Addr} {fs : List (Str × V)} {ds : List PyData} {kvs : List (PyData × PyData)} : Lk K C → H a = some (.ins C dx fs) → BL K H (fs.map (·.2)) ds → kvs = Dq (fs.map (·.1)) ds → Rep K H (.ref a) (.dict kvs)
inductive BL (K : Frag) (H : Hp) : List V → List PyData → Prop
  | nil : BL K H [] []
  | cons {x : V} {d : PyData} {xs : List V} {ds : List PyData} : Rep K H x d → BL K H xs ds → BL K H (x :: xs) (d :: ds)
end
theorem Ak.K3 {K : Frag} {H H' : Hp} {a : Addr} {xs : List V} (e : Ak H H') (h : Dt K H a xs) : Dt K H' a xs := by
  rcases h with (h | ⟨o, h⟩) | h
  · exact .inl (.inl (e _ _ h))
  · exact .inl (.inr ⟨o, e _ _ h⟩)
  · exact .inr h
theorem Ak.new {H : Hp} {p : Addr} {o : HO} (h : H p = none) : Ak H (upd H p o) := fun b u e => by
  rw [Ba (De e h)]
  exact e
mutual
theorem Rep.mono {K : Frag} {H H' : Hp} (e : Ak H H') : ∀ {x : V} {d : PyData}, Rep K H x d → Rep K H' x d
  | _, _, .non => .non
  | _, _, .bl b => .bl b
  | _, _, .int i => .int i
  | _, _, .str x => .str x
  | _, _, .lst q r => .lst (e.seq q) (BL.mono e r)
  | _, _, .tup q r => .tup (e.K3 q) (BL.mono e r)
  | _, _, .dic q => .dic (e _ _ q)
  | _, _, .obj k q r z => .obj k (e _ _ q) (BL.mono e r) z
theorem BL.mono {K : Frag} {H H' : Hp} (e : Ak H H') : ∀ {xs : List V} {ds : List PyData}, BL K H xs ds → BL K H' xs ds
  | _, _, .nil => .nil
  | _, _, .cons q r => .cons (Rep.mono e q) (BL.mono e r)
end
section
variable {X : Cx} {pins : List (Addr × Obj)} {σ : St} {H : Hp} {s : Shared}
mutual
theorem Rep.reads (I : Inv X pins σ H s) : ∀ {x : V} {d : PyData}, Rep X.K H x d → d.canLay0 = true → ∀ {u : Value}, RelV x u → ∃ as, Reads s.heap u d as
  | _, _, .non, _, _, r => by cases r; exact ⟨_, .none⟩
  | _, _, .bl b, _, _, r => by cases r; exact ⟨_, .bool b⟩
  | _, _, .int i, _, _, r => by obtain ⟨t, rfl⟩ := r; exact ⟨_, .int i t⟩
  | _, _, .str x, _, _, r => by obtain ⟨t, rfl⟩ := r; exact ⟨_, .str x t⟩
  | _, _, .lst q r, h, _, rv => by
    cases rv
    obtain ⟨its, v, pl, _⟩ := I.list q
    obtain ⟨as, z⟩ := BL.reads I r h v
    obtain ⟨o, n, e, c, _, d⟩ := pl
    exact ⟨_, reads_list_at e c d (by simpa using z)⟩
  | _, _, .tup q r, h, _, rv => by
    cases rv
    obtain ⟨its, v, pl, _⟩ := I.tuple q
    obtain ⟨as, z⟩ := BL.reads I r h v
    obtain ⟨o, e, c, n, d⟩ := pl
    exact ⟨_, reads_tuple_at e c d (by simpa using z)⟩
  | _, _, .dic _, h, _, _ => by cases h
  | _, _, .obj _ _ _ _, h, _, _ => by cases h
theorem BL.reads (I : Inv X pins σ H s) : ∀ {xs : List V} {ds : List PyData}, BL X.K H xs ds → PyData.canLayAll0 ds = true → ∀ {us : List Value}, Vals xs us → ∃ as, ReadsAll s.heap us ds as
  | _, _, .nil, _, _, .nil => ⟨_, .nil⟩
  | _, _, .cons q r, h, _, .cons v vs => by
    obtain ⟨h1, h2⟩ := Bool.and_eq_true_iff.mp h
    obtain ⟨as, z⟩ := Rep.reads I q h1 v
    obtain ⟨bs, z2⟩ := BL.reads I r h2 vs
    exact ⟨_, .cons z z2⟩
end
end
section
variable {X : Cx}
theorem AI2 (hu : X.A.units + 64 < cLine) : El X (compareOp .Eq) (fun x y H Q => ∃ d e, Rep X.K H x d ∧ Rep X.K H y e ∧ SeqAt.shaped d = true ∧ SeqAt.shaped e = true ∧ Q (.bl (PyData.eqv d e)) H) := by
  intro pins s σ H x y v u Q I rx ry h
  obtain ⟨d, e, rd, re, sd, se, q⟩ := h
  obtain ⟨as, ra⟩ := rd.reads I (Bool.and_eq_true_iff.mp sd).1 rx
  obtain ⟨bs, rb⟩ := re.reads I (Bool.and_eq_true_iff.mp se).1 ry
  exact eq_dataH ra rb sd se hu ⟨.bl _, H, I, rfl, q⟩
theorem AMR (hu : X.A.units + 64 < cLine) : El X (compareOp .NotEq) (fun x y H Q => ∃ d e, Rep X.K H x d ∧ Rep X.K H y e ∧ SeqAt.shaped d = true ∧ SeqAt.shaped e = true ∧ Q (.bl (!PyData.eqv d e)) H) := by
  intro pins s σ H x y v u Q I rx ry h
  obtain ⟨d, e, rd, re, sd, se, q⟩ := h
  obtain ⟨as, ra⟩ := rd.reads I (Bool.and_eq_true_iff.mp sd).1 rx
  obtain ⟨bs, rb⟩ := re.reads I (Bool.and_eq_true_iff.mp se).1 ry
  exact ne_dataH ra rb sd se hu ⟨.bl _, H, I, rfl, q⟩
theorem CN {A : Around} {k : Nat} (hr : Ck k A) : A.units + 64 < cLine := hr.units
theorem AM7 : Gz X (.builtin "all") (fun xs H Q => X.A.handled = none ∧ ∃ (a : Addr) (bs : List Bool), xs = [.ref a] ∧ Bg X.K H a (bs.map V.bl) ∧ Q (.bl (bs.all id)) H) := by
  intro pins s σ H xs us Q I r h
  obtain ⟨hh, a, bs, rfl, hq, q⟩ := h
  obtain ⟨u, rfl, rx⟩ := vals1 r
  cases rx
  obtain ⟨its, v, pl, hz⟩ := I.list hq
  have hl := v.length
  refine call_all_walk (wpAny_pyIter_list pl.isList ?_)
  have hlt : a < s.heap.objs.size := by obtain ⟨_, e, _⟩ := pl.isList; exact Heap.lt_size e
  refine ⟨s.heap.objs.size, _, _, _, _, _, fun i => bs.getD i true, rfl, Walks.list (A := X.A.in1) hh s.heap.objs.size a (Nat.ne_of_lt hlt) its.toArray, ⟨⟨_, Heap.get?_push_size _ rfl, rfl, rfl⟩, pl.isList.push _⟩, ?_, fun h' tk hk => ?_⟩
  · intro i w' s' Q' E' hP hQ
    have hP' : its[i]? = some w' := by simpa using hP
    have hi : i < bs.length := by
      have := (List.getElem?_eq_some_iff.mp hP').1
      rw [List.length_map] at hl
      omega
    obtain ⟨w2, e2, r2⟩ := v.get (i := i) (x := .bl bs[i]) (by simp [hi])
    rw [hP'] at e2
    cases e2
    obtain rfl : w' = Value.bool bs[i] := r2
    have e3 : bs.getD i true = bs[i] := by simp [hi]
    have hQ2 : Q' (bs.getD i true) s' := hQ
    rw [e3] at hQ2
    exact wpAny_truthy_bool hQ2
  · have e : (List.range its.toArray.size).all (fun i => bs.getD i true) = bs.all id := by
      rw [List.length_map] at hl
      rw [List.size_toArray, ← hl, Bool.eq_iff_iff, List.all_eq_true, List.all_eq_true]
      constructor
      · intro z b hb
        obtain ⟨i, hi, rfl⟩ := List.mem_iff_getElem.mp hb
        have := z i (List.mem_range.mpr hi)
        simpa [hi] using this
      · intro z i hi
        have hi' := List.mem_range.mp hi
        have := z bs[i] (List.getElem_mem hi')
        simpa [hi'] using this
    rw [e]
    exact ⟨.bl _, H, I.kept (t' := tk) (fun b o e => hk b o (by simp; exact Nat.ne_of_lt (Heap.lt_size e)) (Heap.get?_push_of_some _ e)), rfl, q⟩
end
end L2
namespace L2
open PySem PySem.Spec PyProof.Rows
theorem AJT (a b c d : Int) : PyData.eqv (.tuple [.int a, .int b]) (.tuple [.int c, .int d]) = decide (a = c ∧ b = d) := by
  simp [PyData.eqv, PyData.eqvAll]
  by_cases h1 : a = c <;> by_cases h2 : b = d <;> simp [h1, h2]
end L2
namespace L2
open PySem PySem.Spec PyProof.Rows
section
variable {X : Cx} {pins : List (Addr × Obj)} {σ : St} {H : Hp} {s : Shared} {h' : Heap}
theorem Inv.mY {t' : Nat} {ch : List Addr} (I : Inv X pins σ H s) (hch : ∀ b ∈ ch, HX X pins H b) (k : ∀ b u, b ∉ ch → s.heap.get? b = some u → h'.get? b = some u) : Inv X pins σ H { s with heap := h', toks := t' } := by
  have nch : ∀ b u, H b = some u → b ∉ ch := fun b u e z => by rw [(hch b z).1] at e; cases e
  refine I.step (g' := s.gens) (d' := s.drawn) (ch := ch) (fun b hb => ⟨(hch b hb).2.2.2.1, (hch b hb).2.1, (hch b hb).2.2.2.2.1, (hch b hb).2.2.2.2.2⟩) (fun b o _ _ hc e _ => k b o hc e) (fun b o _ _ hc e _ => ⟨o.slots, k b o hc e⟩) (fun _ _ _ _ n => n)
    (fun b o hc e => ⟨o, k b o hc e⟩) (fun _ _ e => e) (fun _ _ _ e => e) (fun b ps e => ⟨#[], by rw [e]; simp⟩) (fun m hm => ?_) (fun b u e => ?_) I.bare
  · obtain ⟨o, es, ep, ho, r⟩ := hm
    exact ⟨o, es, ep, k _ o (fun z => (hch _ z).2.1 rfl) ho, r⟩
  · refine (I.hok b u e).Jk (fun c v hc q => k c v ?_ q) (fun _ q => q) fun _ _ q => q
    rcases hc with z | z
    · rw [z]; exact nch b u e
    · exact nch c _ z
theorem Inv.gY {t' : Nat} {ch : List Addr} {a : Addr} {o : HO} (I : Inv X pins σ H s) (hch : ∀ b ∈ ch, HX X pins H b) (k : ∀ b u, b ∉ ch → s.heap.get? b = some u → h'.get? b = some u) (hp : s.heap.objs.size ≤ a) (new : Em X.prog X.w (upd H a o) h' a o) : Inv X pins σ (upd H a o) { s with heap := h', toks := t' } := by
  have nch : ∀ b u, H b = some u → b ∉ ch := fun b u e z => by rw [(hch b z).1] at e; cases e
  have hn : H a = none := I.hok.fresh hp
  refine I.step (g' := s.gens) (d' := s.drawn) (ch := ch) (fun b hb => ⟨(hch b hb).2.2.2.1, (hch b hb).2.1, (hch b hb).2.2.2.2.1, (hch b hb).2.2.2.2.2⟩) (fun b o _ _ hc e _ => k b o hc e) (fun b o _ _ hc e _ => ⟨o.slots, k b o hc e⟩)
    (fun b u _ e n => by rw [Ba (Nat.ne_of_lt (Nat.lt_of_lt_of_le (Heap.lt_size e) hp))]; exact n)
    (fun b o hc e => ⟨o, k b o hc e⟩) (fun b xs e => by rw [Ba (De e hn)]; exact e) (fun b u xs e => by rw [Ba (De e hn)]; exact e) (fun b ps e => ⟨#[], by rw [Ba (De e hn), e]; simp⟩) (fun m hm => ?_) (fun b u e => ?_) I.bare
  · obtain ⟨o, es, ep, ho, r⟩ := hm
    exact ⟨o, es, ep, k _ o (fun z => (hch _ z).2.1 rfl) ho, r⟩
  · by_cases hb : b = a
    · subst hb
      rw [Dg] at e
      cases e
      exact new
    · rw [Ba hb] at e
      refine (I.hok b u e).Jk (fun c v hc q => k c v ?_ q) (fun c q => by rw [Ba (De q hn)]; exact q) fun c xs q => by rw [Ba (De q hn)]; exact q
      rcases hc with z | z
      · rw [z]; exact nch b u e
      · exact nch c _ z
end
def bA (K : Frag) (a : Addr) : It :=
  ⟨fun i H => ∃ xs x, Bg K H a xs ∧ xs[i]? = some x, fun i H x H' => ∃ p y, H p = none ∧ x = .ref p ∧ H' = upd H p (.tup [.int i, y]) ∧ ∀ xs, Bg K H a xs → xs[i]? = some y, fun i H => ∃ xs, Bg K H a xs ∧ xs.length ≤ i⟩
theorem zX {P : Program} {w : World} {K : Frag} {elts : List Expr} {k1 : Nat} {pos : Pos} (a e it : Addr) (hei : e ≠ it) :
    Turn P w K (.Tuple elts k1 pos) (bA K a) [e, it] e (fun i h => (∃ old, IsEnum h e it i old) ∧ h.IsListIter it a i) where
  mem := by simp
  obj := fun i h st b hb => by
    obtain ⟨⟨old, he⟩, hit⟩ := st
    rcases List.mem_cons.mp hb with rfl | hb
    · exact ⟨_, he, fun v z => by
        have z' : Data.fields _ = Data.cell v := z
        cases z'⟩
    · have e2 : b = it := by simpa using hb
      subst e2
      obtain ⟨o, e3, c, d⟩ := hit
      exact ⟨o, e3, fun v z => by rw [d] at z; cases z⟩
  keep := fun i h h' st k => by
    obtain ⟨⟨old, he⟩, hit⟩ := st
    exact ⟨⟨old, k e (by simp) _ he⟩, hit.at fun o q => k it (by simp) o q⟩
  item := by
    intro X hP hw hK hc i pins s σ H E I hf st hg
    subst hP hw hK
    obtain ⟨xs, x, hq, hx⟩ := hg
    obtain ⟨its, rv, p, hz⟩ := I.list hq
    obtain ⟨u, hu, ru⟩ := rv.get hx
    obtain ⟨⟨old, he⟩, hit⟩ := st
    refine wpAny_pyNext_enum_item he hit p.isList (x := u) (by simpa using hu) hei fun h1 ho hit1 hT hsz hk => ?_
    refine ⟨_, rfl, wpAny_letOwnedTupleGo_enum ho fun h2 he2 hs2 => ?_⟩
    have hlt : e < s.heap.objs.size := Heap.lt_size he
    have hilt : it < s.heap.objs.size := by obtain ⟨_, q, _⟩ := hit; exact Heap.lt_size q
    have hT2 : h2.get? s.heap.objs.size = some { cls := .type "tuple", data := .seq #[.int i s.toks, u] } := (hs2.2 _ (Nat.ne_of_gt hlt)).trans hT
    have I2 : Inv X pins σ (upd H s.heap.objs.size (.tup [.int i, x])) { s with heap := h2, toks := s.toks + 1 } := I.gY (ch := [e, it]) hf (fun b o hb q => by
      have n1 : b ≠ e := fun z => hb (by simp [z])
      have n2 : b ≠ it := fun z => hb (by simp [z])
      exact (hs2.2 b n1).trans (hk b o n1 n2 q)) (Nat.le_refl _) ⟨by show 2 ≤ sizeLine; decide, [.int i s.toks, u], .cons ⟨_, rfl⟩ (.cons ru .nil), _, hT2, rfl, _, rfl⟩
    refine ⟨.ref s.heap.objs.size, _, I2, rfl, ⟨_, x, I.hok.fresh (Nat.le_refl _), rfl, rfl, fun ys hy => by rw [I.V7 hy hq]; exact hx⟩, ⟨⟨_, by simpa using he2⟩, hit1.at fun o q => (hs2.2 it hei.symm).trans q⟩, fun b hb => ?_⟩
    have hb' : b < s.heap.objs.size := by
      rcases List.mem_cons.mp hb with rfl | hb
      · exact hlt
      · have e2 : b = it := by simpa using hb
        rw [e2]; exact hilt
    rw [Ba (Nat.ne_of_lt hb')]
    exact (hf b hb).1
  done := by
    intro X hP hw hK hc i pins s σ H E I hf st hg
    subst hP hw hK
    obtain ⟨xs, hq, hx⟩ := hg
    obtain ⟨its, rv, p, hz⟩ := I.list hq
    have hl := rv.length
    obtain ⟨⟨old, he⟩, hit⟩ := st
    refine wpAny_pyNext_enum_end (I.ok.hd hc) he hit p.isList (by simp; omega) fun h1 hk => ⟨rfl, I.mY (t' := s.toks) (ch := [e, it]) hf fun b o hb q => hk b o (fun z => hb (by simp [z])) q⟩
  self := fun _ _ _ _ _ st h => by
    obtain ⟨⟨old, he⟩, _⟩ := st
    exact wpAny_pyIter_enum he h
def dZ (K : Frag) (a b : Addr) : It :=
  ⟨fun i H => ∃ xs ys x y, Bg K H a xs ∧ Bg K H b ys ∧ xs[i]? = some x ∧ ys[i]? = some y,
   fun i H v H' => ∃ p x y, H p = none ∧ v = .ref p ∧ H' = upd H p (.tup [x, y]) ∧ (∀ xs, Bg K H a xs → xs[i]? = some x) ∧ ∀ ys, Bg K H b ys → ys[i]? = some y,
   fun i H => ∃ xs ys, Bg K H a xs ∧ Bg K H b ys ∧ min xs.length ys.length ≤ i⟩
theorem AGy {P : Program} {w : World} {K : Frag} {elts : List Expr} {k1 : Nat} {pos : Pos} (a b z TI TO i1 i2 : Addr) (D : ZipApart z TI TO i1 i2 a b) :
    Turn P w K (.Tuple elts k1 pos) (dZ K a b) [z, TI, TO, i1, i2] z (fun i h => IsZip h z TI TO .none ∧ IsPair h TI (.ref i1) (.ref i2) ∧ (∃ x y, IsPair h TO x y) ∧ h.IsListIter i1 a i ∧ h.IsListIter i2 b i) where
  mem := by simp
  obj := fun i h st c hc => by
    obtain ⟨hz, hTI, ⟨x, y, hTO⟩, h1, h2⟩ := st
    simp only [List.mem_cons, List.not_mem_nil, or_false] at hc
    rcases hc with rfl | rfl | rfl | rfl | rfl
    · exact ⟨_, hz, fun v q => by
        have q' : Data.fields _ = Data.cell v := q
        cases q'⟩
    · exact ⟨_, hTI, fun v q => by
        have q' : Data.seq _ _ = Data.cell v := q
        cases q'⟩
    · exact ⟨_, hTO, fun v q => by
        have q' : Data.seq _ _ = Data.cell v := q
        cases q'⟩
    · obtain ⟨o, e3, c, d⟩ := h1
      exact ⟨o, e3, fun v z => by rw [d] at z; cases z⟩
    · obtain ⟨o, e3, c, d⟩ := h2
      exact ⟨o, e3, fun v z => by rw [d] at z; cases z⟩
  keep := fun i h h' st k => by
    obtain ⟨hz, hTI, ⟨x, y, hTO⟩, h1, h2⟩ := st
    exact ⟨k z (by simp) _ hz, k TI (by simp) _ hTI, ⟨x, y, k TO (by simp) _ hTO⟩, h1.at fun o q => k i1 (by simp) o q, h2.at fun o q => k i2 (by simp) o q⟩
  item := by
    intro X hP hw hK hc i pins s σ H E I hf st hg
    subst hP hw hK
    obtain ⟨xs, ys, x, y, hqa, hqb, hx, hy⟩ := hg
    obtain ⟨its, rv, p, hz⟩ := I.list hqa
    obtain ⟨jts, rw', p', hz'⟩ := I.list hqb
    obtain ⟨u, hu, ru⟩ := rv.get hx
    obtain ⟨v, hv, rv2⟩ := rw'.get hy
    obtain ⟨hzz, hTI, ⟨x0, y0, hTO⟩, h1, h2⟩ := st
    refine wpAny_pyNext_zip_item D hzz hTI hTO h1 h2 p.isList p'.isList (x := u) (y := v) (by simpa using hu) (by simpa using hv) fun g1 hz1 ABi hi1 hi2 hP1 hsz hk => ?_
    refine ⟨_, rfl, wpAny_letOwnedTupleGo_zip hz1 fun g2 hz2 hs2 => ?_⟩
    have hlt : z < s.heap.objs.size := Heap.lt_size hzz
    have hT2 : IsPair g2 s.heap.objs.size u v := (hs2.2 _ (Nat.ne_of_gt hlt)).trans hP1
    have I2 : Inv X pins σ (upd H s.heap.objs.size (.tup [x, y])) { s with heap := g2, toks := s.toks } := I.gY (ch := [z, TI, TO, i1, i2]) hf (fun c o hb q => by
      have n1 : c ≠ z := fun e => hb (by simp [e])
      exact (hs2.2 c n1).trans (hk c o n1 (fun e => hb (by simp [e])) (fun e => hb (by simp [e])) (fun e => hb (by simp [e])) q)) (Nat.le_refl _) ⟨by show 2 ≤ sizeLine; decide, [u, v], .cons ru (.cons rv2 .nil), _, hT2, rfl, _, rfl⟩
    refine ⟨.ref s.heap.objs.size, _, I2, rfl, ⟨_, x, y, I.hok.fresh (Nat.le_refl _), rfl, rfl, fun xs' h' => by rw [I.V7 h' hqa]; exact hx, fun ys' h' => by rw [I.V7 h' hqb]; exact hy⟩, ?_, fun c hc' => ?_⟩
    · refine ⟨hz2, (hs2.2 _ D.TIz).trans ?_, ⟨u, v, (hs2.2 _ D.TOz).trans ABi⟩, hi1.at fun o q => (hs2.2 i1 D.i1z).trans q, hi2.at fun o q => (hs2.2 i2 D.i2z).trans q⟩
      exact hk TI _ D.TIz D.TITO D.TIi1 D.TIi2 hTI
    · have hb' : c < s.heap.objs.size := by
        simp only [List.mem_cons, List.not_mem_nil, or_false] at hc'
        rcases hc' with rfl | rfl | rfl | rfl | rfl
        · exact hlt
        · exact Heap.lt_size hTI
        · exact Heap.lt_size hTO
        · obtain ⟨_, q, _⟩ := h1; exact Heap.lt_size q
        · obtain ⟨_, q, _⟩ := h2; exact Heap.lt_size q
      rw [Ba (Nat.ne_of_lt hb')]
      exact (hf c hc').1
  done := by
    intro X hP hw hK hc i pins s σ H E I hf st hg
    subst hP hw hK
    obtain ⟨xs, ys, hqa, hqb, hm⟩ := hg
    obtain ⟨its, rv, p, hz⟩ := I.list hqa
    obtain ⟨jts, rw', p', hz'⟩ := I.list hqb
    have hl := rv.length
    have hl' := rw'.length
    obtain ⟨hzz, hTI, ⟨x0, y0, hTO⟩, h1, h2⟩ := st
    refine wpAny_pyNext_zip_end (I.ok.hd hc) D hzz hTI hTO h1 h2 p.isList p'.isList (by simp; omega) fun g1 hk => ⟨rfl, I.mY (t' := s.toks) (ch := [z, TI, TO, i1, i2]) hf fun c o hb q => hk c o (fun e => hb (by simp [e])) (fun e => hb (by simp [e])) (fun e => hb (by simp [e])) (fun e => hb (by simp [e])) q⟩
  self := fun _ _ _ _ _ st h => wpAny_pyIter_zip st.1 h
section
variable {X : Cx} {elts : List Expr} {k1 : Nat} {tpos : Pos}
def yN (K : Frag) (ta : TA) : TI := fun σ H R => ta σ H fun vs H1 => ∃ a, vs = [.ref a] ∧ (∃ xs, Bg K H1 a xs) ∧ R (bA K a) H1
def uI (K : Frag) (ta : TA) : TI := fun σ H R => ta σ H fun vs H1 => ∃ a b, vs = [.ref a, .ref b] ∧ (∃ xs, Bg K H1 a xs) ∧ (∃ ys, Bg K H1 b ys) ∧ R (dZ K a b) H1
theorem AFW {a : Expr} {ta : TA} {p pos : Pos} (hg : Gl X "enumerate") (hm : X.mg "enumerate" = none) (ha : PA X [a] ta) (hs : starEach [a] X.env = [(false, eval a X.env)] := by rfl) :
    PI X (.Tuple elts k1 tpos) (.Call (.Name "enumerate" p) [a] [] pos) (yN X.K ta) := by
  intro pins s σ H R I h
  refine Call_ (PJ I hg hm (by rfl) (PyProof.Rows.callWith_type1 (Bf (ha pos pins s σ H _ I h) fun us s1 ⟨vs, H1, I1, r1, q1⟩ => ?_) hs rfl))
  obtain ⟨l, e, ⟨xs, hq⟩, q⟩ := q1
  subst e
  obtain ⟨u, rfl, rx⟩ := vals1 r1
  cases rx
  obtain ⟨its, rv, pl, hz⟩ := I1.list hq
  refine call_enumerate_list pl.isList fun h' he hit hsz hk => ?_
  have I2 : Inv X pins σ H1 { s1 with heap := h', toks := s1.toks } := I1.kept hk
  refine wpAny_pyIter_enum (s := { s1 with heap := h' }) he ?_
  refine ⟨s1.heap.objs.size + 1, [s1.heap.objs.size + 1, s1.heap.objs.size], _, _, H1, rfl, I2, zX l (s1.heap.objs.size + 1) s1.heap.objs.size (Nat.succ_ne_self _), ⟨⟨_, by simpa using he⟩, hit⟩, fun b hb => ?_, q⟩
  simp only [List.mem_cons, List.not_mem_nil, or_false] at hb
  rcases hb with rfl | rfl
  · exact I1.M5 (Nat.le_succ _) (I1.hok.fresh (Nat.le_succ _))
  · exact I1.M5 (Nat.le_refl _) (I1.hok.fresh (Nat.le_refl _))
theorem AEf {a b : Expr} {ta : TA} {p pos : Pos} (hg : Gl X "zip") (hm : X.mg "zip" = none) (ha : PA X [a, b] ta) (hs : starEach [a, b] X.env = [(false, eval a X.env), (false, eval b X.env)] := by rfl) (hs2 : starEach [b] X.env = [(false, eval b X.env)] := by rfl) :
    PI X (.Tuple elts k1 tpos) (.Call (.Name "zip" p) [a, b] [] pos) (uI X.K ta) := by
  intro pins s σ H R I h
  refine Call_ (PJ I hg hm (by rfl) (PyProof.Rows.callWith_type1 (Bf (ha pos pins s σ H _ I h) fun us s1 ⟨vs, H1, I1, r1, q1⟩ => ?_) (by rw [hs, hs2]) (by rw [hs2]; rfl)))
  obtain ⟨l, l2, e, ⟨xs, hq⟩, ⟨ys, hq2⟩, q⟩ := q1
  subst e
  obtain ⟨u, u2, rfl, rx, rx2⟩ := vals2 r1
  cases rx
  cases rx2
  obtain ⟨its, rv, pl, hz⟩ := I1.list hq
  obtain ⟨jts, rv2, pl2, hz2⟩ := I1.list hq2
  have lt1 : l < s1.heap.objs.size := by obtain ⟨_, e, _⟩ := pl.isList; exact Heap.lt_size e
  have lt2 : l2 < s1.heap.objs.size := by obtain ⟨_, e, _⟩ := pl2.isList; exact Heap.lt_size e
  refine call_zip_2 pl.isList pl2.isList fun h' hzz hTI hTO hi1 hi2 hsz hk => ?_
  have I2 : Inv X pins σ H1 { s1 with heap := h', toks := s1.toks } := I1.kept hk
  refine wpAny_pyIter_zip (s := { s1 with heap := h' }) hzz ?_
  refine ⟨s1.heap.objs.size + 4, [s1.heap.objs.size + 4, s1.heap.objs.size + 2, s1.heap.objs.size + 3, s1.heap.objs.size, s1.heap.objs.size + 1], _, _, H1, rfl, I2, AGy l l2 _ _ _ _ _ (zipApart_new lt1 lt2), ⟨hzz, hTI, ⟨_, _, hTO⟩, hi1, hi2⟩, fun b hb => ?_, q⟩
  simp only [List.mem_cons, List.not_mem_nil, or_false] at hb
  have up : ∀ k, HX X pins H1 (s1.heap.objs.size + k) := fun k => I1.M5 (Nat.le_add_right _ k) (I1.hok.fresh (Nat.le_add_right _ k))
  rcases hb with rfl | rfl | rfl | rfl | rfl
  · exact up 4
  · exact up 2
  · exact up 3
  · exact up 0
  · exact up 1
end
end L2
namespace L2
open PySem PySem.Spec PyProof.Rows
abbrev Thing := Option (Int × Int)
def encD : Thing → PyData
  | none => .tuple []
  | some (k, w) => .tuple [.int k, .int w]
theorem XD (t : Thing) : (encD t).canLay0 = true ∧ (encD t).depth ≤ 1 := by
  cases t with
  | none => simp [encD, PyData.canLay0, PyData.canLayAll0, PyData.depth, PyData.depthAll]
  | some kw => simp [encD, PyData.canLay0, PyData.canLayAll0, PyData.depth, PyData.depthAll]
theorem YH (t : Thing) : SeqAt.shaped (encD t) = true := by
  have := XD t
  unfold SeqAt.shaped
  rw [this.1, Bool.true_and]
  exact decide_eq_true (Nat.le_trans this.2 (by decide))
theorem rO : ∀ ts : List Thing, PyData.canLayAll0 (ts.map encD) = true ∧ PyData.depthAll (ts.map encD) ≤ 1
  | [] => by simp [PyData.canLayAll0, PyData.depthAll]
  | t :: r => by
    have h1 := XD t
    have h2 := rO r
    simp only [List.map_cons, PyData.canLayAll0, PyData.depthAll, h1.1, h2.1, Bool.and_self, true_and]
    have a1 := h1.2
    have a2 := h2.2
    omega
theorem XN (ts : List Thing) : SeqAt.shaped (.list (ts.map encD)) = true := by
  have := rO ts
  unfold SeqAt.shaped
  simp only [PyData.canLay0, PyData.depth, this.1, Bool.true_and]
  exact decide_eq_true (by omega)
theorem XF (t u : Thing) : PyData.eqv (encD t) (encD u) = decide (t = u) := by
  cases t with
  | none => cases u with
    | none => simp [encD, PyData.eqv, PyData.eqvAll]
    | some kw => simp [encD, PyData.eqv, PyData.eqvAll]
  | some kw => cases u with
    | none => simp [encD, PyData.eqv, PyData.eqvAll]
    | some kw' =>
      obtain ⟨a, b⟩ := kw
      obtain ⟨c, d⟩ := kw'
      show PyData.eqv (.tuple [.int a, .int b]) (.tuple [.int c, .int d]) = _
      rw [AJT]
      by_cases h1 : a = c <;> by_cases h2 : b = d <;> simp [h1, h2]
theorem nQ : ∀ ts us : List Thing, PyData.eqvAll (ts.map encD) (us.map encD) = decide (ts = us)
  | [], [] => by simp [PyData.eqvAll]
  | [], _ :: _ => by simp [PyData.eqvAll]
  | _ :: _, [] => by simp [PyData.eqvAll]
  | t :: r, u :: q => by
    simp only [List.map_cons, PyData.eqvAll, XF, nQ r q]
    by_cases h1 : t = u <;> by_cases h2 : r = q <;> simp [h1, h2]
theorem oO (ts us : List Thing) : PyData.eqv (.list (ts.map encD)) (.list (us.map encD)) = decide (ts = us) := by
  simp only [PyData.eqv]
  exact nQ ts us
end L2
namespace L2
open PySem PySem.Spec PyProof.Rows
abbrev D := PyData
def Ai (O : List Addr) (H : Hp) : Hp := fun b => if b ∈ O then none else H b
theorem Rq {O : List Addr} {H : Hp} {b : Addr} (h : b ∈ O) : Ai O H b = none := if_pos h
theorem Cj {O : List Addr} {H : Hp} {b : Addr} (h : b ∉ O) : Ai O H b = H b := if_neg h
theorem Gr {O : List Addr} {H : Hp} {b : Addr} {o : HO} (h : Ai O H b = some o) : b ∉ O ∧ H b = some o := by
  by_cases q : b ∈ O
  · rw [Rq q] at h; cases h
  · rw [Cj q] at h; exact ⟨q, h⟩
theorem Dj {O : List Addr} {H : Hp} : Ak (Ai O H) H := fun b o h => (Gr h).2
theorem DQ {O O' : List Addr} {H : Hp} (h : ∀ b, b ∈ O' → b ∈ O) : Ak (Ai O H) (Ai O' H) := fun b o e => by
  obtain ⟨n, e⟩ := Gr e
  rw [Cj fun z => n (h b z)]
  exact e
theorem Ds {O : List Addr} {H H' : Hp} (s : Ak H H') : Ak (Ai O H) (Ai O H') := fun b o e => by
  obtain ⟨n, e⟩ := Gr e
  rw [Cj n]
  exact s b o e
theorem Ih {O : List Addr} {H : Hp} {a : Addr} {o : HO} (h : a ∈ O) : Ai O (upd H a o) = Ai O H := by
  funext b
  by_cases q : b ∈ O
  · rw [Rq q, Rq q]
  · rw [Cj q, Cj q, Ba fun z => q (by rw [z]; exact h)]
theorem AIw {H : Hp} : Ai [] H = H := by
  funext b
  exact Cj (by simp)
theorem Sh {O : List Addr} {H : Hp} {a : Addr} {o : HO} (h : H a = none) : Ak (Ai O H) (Ai (a :: O) (upd H a o)) := fun b u e => by
  obtain ⟨n, e⟩ := Gr e
  have nb : b ≠ a := De e h
  rw [Cj (by simp [nb, n]), Ba nb]
  exact e
def CP (O : List Addr) (H : Hp) : Prop := ∀ a ∈ O, ∃ o, H a = some o
theorem CP.mono {O : List Addr} {H H' : Hp} (k : CP O H) (s : Ak H H') : CP O H' := fun a h => by
  obtain ⟨o, e⟩ := k a h
  exact ⟨o, s _ _ e⟩
theorem CP.fresh {O : List Addr} {H : Hp} {a : Addr} (k : CP O H) (h : H a = none) : a ∉ O := fun z => by
  obtain ⟨o, e⟩ := k a z
  rw [e] at h
  cases h
theorem CP.nil {H : Hp} : CP [] H := fun a h => by cases h
abbrev Bc := List (Option D)
abbrev PF := Bc → Option D
abbrev PB := Bc → Option Bool
abbrev BW := Bc → Option (List D)
def Dl (K : Frag) (H : Hp) (σ : St) (ρ : Bc) : Prop := ∀ (i : Nat) (d : D), ρ[i]? = some (some d) → ∃ v, σ[i]? = some (some v) ∧ Rep K H v d
theorem Dl.mono {K : Frag} {H H' : Hp} {σ : St} {ρ : Bc} (e : Dl K H σ ρ) (s : Ak H H') : Dl K H' σ ρ := fun i d h => by
  obtain ⟨v, e1, r⟩ := e i d h
  exact ⟨v, e1, r.mono s⟩
def Gj (K : Frag) (te : TE) (f : PF) : Prop := ∀ (O : List Addr) (σ : St) (H : Hp) (ρ : Bc) (d : D) (Q : VK), CP O H → Dl K (Ai O H) σ ρ → f ρ = some d →
  (∀ v H', Ak H H' → Rep K (Ai O H') v d → Q v H') → te σ H Q
def M8 (K : Frag) (te : TT) (f : PB) : Prop := ∀ (O : List Addr) (σ : St) (H : Hp) (ρ : Bc) (b : Bool) (Q : Bool → Hp → Prop), CP O H → Dl K (Ai O H) σ ρ → f ρ = some b →
  (∀ H', Ak H H' → Q b H') → te σ H Q
def We (K : Frag) (te : TA) (f : BW) : Prop := ∀ (O : List Addr) (σ : St) (H : Hp) (ρ : Bc) (ds : List D) (Q : List V → Hp → Prop), CP O H → Dl K (Ai O H) σ ρ → f ρ = some ds →
  (∀ vs H', Ak H H' → BL K (Ai O H') vs ds → Q vs H') → te σ H Q
def LQ (K : Frag) (te : TE) (f : BW) : Prop := ∀ (O : List Addr) (σ : St) (H : Hp) (ρ : Bc) (ds : List D) (Q : VK), CP O H → Dl K (Ai O H) σ ρ → f ρ = some ds →
  (∀ a xs H', Ak H H' → H a = none → H' a = some (.lst xs) → BL K (Ai (a :: O) H') xs ds → Q (.ref a) H') → te σ H Q
def QF (K : Frag) (r : R2) (g : D → D → Option D) : Prop := ∀ (O : List Addr) (H : Hp) (x y : V) (a b d : D) (Q : VK), CP O H → Rep K (Ai O H) x a → Rep K (Ai O H) y b → g a b = some d →
  (∀ v H', Ak H H' → Rep K (Ai O H') v d → Q v H') → r x y H Q
def PuC (K : Frag) (r : List V → Hp → VK → Prop) (g : List D → Option D) : Prop := ∀ (O : List Addr) (H : Hp) (vs : List V) (ds : List D) (d : D) (Q : VK), CP O H → BL K (Ai O H) vs ds → g ds = some d →
  (∀ v H', Ak H H' → Rep K (Ai O H') v d → Q v H') → r vs H Q
def AM9 (K : Frag) (r : List V → Hp → VK → Prop) (g : List D → Option (List D)) : Prop := ∀ (O : List Addr) (H : Hp) (vs : List V) (ds es : List D) (Q : VK), CP O H → BL K (Ai O H) vs ds → g ds = some es →
  (∀ a xs H', Ak H H' → H a = none → H' a = some (.lst xs) → BL K (Ai (a :: O) H') xs es → Q (.ref a) H') → r vs H Q
structure JE (X : Cx) (K : Frag) (e : Expr) (te : TE) (f : PF) : Prop where
  pe : PE X e te
  pu : Gj K te f
structure JT (X : Cx) (K : Frag) (e : Expr) (te : TT) (f : PB) : Prop where
  pe : PT X e te
  pu : M8 K te f
structure JW (X : Cx) (K : Frag) (e : Expr) (te : TT) (f : PB) : Prop where
  pe : PW X e te
  pu : M8 K te f
structure JA (X : Cx) (K : Frag) (es : List Expr) (te : TA) (f : BW) : Prop where
  pe : PA X es te
  pu : We K te f
structure JL (X : Cx) (K : Frag) (e : Expr) (te : TE) (f : BW) : Prop where
  pe : PE X e te
  pu : LQ K te f
structure Fj (X : Cx) (K : Frag) (f : Value → Value → Sem Value) (r : R2) (g : D → D → Option D) : Prop where
  pe : El X f r
  pu : QF K r g
structure Mt (X : Cx) (K : Frag) (f : Value) (r : List V → Hp → VK → Prop) (g : List D → Option D) : Prop where
  pe : Gz X f r
  pu : PuC K r g
structure kZ (X : Cx) (K : Frag) (f : Value) (r : List V → Hp → VK → Prop) (g : List D → Option (List D)) : Prop where
  pe : Gz X f r
  pu : AM9 K r g
def Aa (i : Nat) : PF := fun ρ => (ρ[i]?).join
def Ad (d : D) : PF := fun _ => some d
def Ae (g : D → D → Option D) (a b : PF) : PF := fun ρ => (a ρ).bind fun x => (b ρ).bind fun y => g x y
def Nf (g : D → Option D) (a : PF) : PF := fun ρ => (a ρ).bind g
def KD : D → Option Bool
  | .bool b => some b
  | _ => none
def BP (a : PF) : PB := fun ρ => (a ρ).bind KD
def Ez (a : PB) : PB := fun ρ => (a ρ).map (!·)
def Gi (a b : PB) : PB := fun ρ => (a ρ).bind fun x => if x = true then b ρ else some false
def GF (a b : PB) : PB := fun ρ => (a ρ).bind fun x => if x = true then some true else b ρ
def Cq : PB := fun _ => some true
def Gp (a b : PF) : PF := fun ρ => (a ρ).bind fun x => (KD x).bind fun k => if k = true then b ρ else some (.bool false)
def T7 (a b : PF) : PF := fun ρ => (a ρ).bind fun x => (KD x).bind fun k => if k = true then some (.bool true) else b ρ
def WM (a : PF) : PF := fun ρ => (a ρ).bind fun x => (KD x).bind fun k => some (.bool (!k))
def WK (c : PB) (a b : PF) : PF := fun ρ => (c ρ).bind fun x => if x = true then a ρ else b ρ
def Hs (g g' : D → D → Option D) (a b c : PF) : PF := fun ρ => (a ρ).bind fun x => (b ρ).bind fun y => (g x y).bind fun z => (KD z).bind fun k => if k = true then (c ρ).bind fun u => g' y u else some (.bool false)
def Ag : BW := fun _ => some []
def Ab (a : PF) (r : BW) : BW := fun ρ => (a ρ).bind fun x => (r ρ).bind fun xs => some (x :: xs)
def fits (n : Nat) : Bool := decide (n < sizeLine)
def Bt (r : BW) : PF := fun ρ => (r ρ).bind fun xs => if fits xs.length = true then some (.tuple xs) else none
def CQ (r : BW) : BW := fun ρ => (r ρ).bind fun xs => if fits xs.length = true then some xs else none
def BV (r : BW) : PF := fun ρ => (r ρ).map PyData.list
def Ar (f : List D → Option D) (r : BW) : PF := fun ρ => (r ρ).bind f
def Bm (f : List D → Option (List D)) (r : BW) : BW := fun ρ => (r ρ).bind f
def dI (g : Int → Int → D) : D → D → Option D
  | .int a, .int b => some (g a b)
  | _, _ => none
def TQ (C : Int → Int → Bool) (g : Int → Int → D) : D → D → Option D
  | .int a, .int b => if C a b = true then some (g a b) else none
  | _, _ => none
def Df := dI fun i j => .int (i + j)
def Eu := dI fun i j => .int (i - j)
def small (i : Int) : Bool := decide (-(2 ^ 64) < i ∧ i < 2 ^ 64)
def DX := TQ (fun i j => small i || small j) fun i j => .int (i * j)
def Wide (j : Int) : Prop := 0 < j ∧ j.natAbs.log2 < 9000
instance (j : Int) : Decidable (Wide j) := instDecidableAnd
def CJ := TQ (fun _ j => decide ((0 < j ∧ j < 1073741824) ∨ Wide j)) fun i j => .int (i / j)
theorem AH7 {j : Int} (h : (0 < j ∧ j < 1073741824) ∨ Wide j) : Wide j := by
  rcases h with ⟨h0, h1⟩ | h
  · refine ⟨h0, ?_⟩
    have h30 : j.natAbs.log2 < 30 := (Nat.log2_lt (by omega)).mpr (by omega)
    omega
  · exact h
def Bl := TQ (fun _ j => decide (0 < j)) fun i j => .int (i % j)
def Ir := TQ (fun i j => decide (0 ≤ j ∧ j ≤ 1000000 ∧ i.natAbs < 2 ^ 64)) fun i j => .int (i ^ j.toNat)
def Ht := dI fun i j => .bool (decide (i < j))
def HF := dI fun i j => .bool (decide (i ≤ j))
def Lp := dI fun i j => .bool (decide (j < i))
def Xi := dI fun i j => .bool (decide (j ≤ i))
def Bx (a b : D) : Option D := if SeqAt.shaped a = true ∧ SeqAt.shaped b = true then some (.bool (PyData.eqv a b)) else none
def Cm (a b : D) : Option D := if SeqAt.shaped a = true ∧ SeqAt.shaped b = true then some (.bool (!PyData.eqv a b)) else none
def Jf : D → Bool
  | .none => true
  | _ => false
def Ry (a b : D) : Option D := if Jf b = true then some (.bool (Jf a)) else none
def xU (a b : D) : Option D := if Jf b = true then some (.bool (!Jf a)) else none
def Az : D → D → Option D
  | .list ds, .int i => Cw ds i
  | .tuple ds, .int i => Cw ds i
  | .str z, .int i => if z.length ≤ sizeLine then (Cw z.cps.toList i).map fun c => .str ⟨#[c]⟩ else none
  | _, _ => none
def Q5 : D → Option D
  | .int i => some (.int (-i))
  | _ => none
section
variable {X : Cx} {K : Frag}
theorem Rep.Ai {O : List Addr} {H H' : Hp} {v : V} {d : D} (r : Rep K (Ai O H) v d) (s : Ak H H') : Rep K (L2.Ai O H') v d := r.mono (Ds s)
theorem BL.Ai {O : List Addr} {H H' : Hp} {v : List V} {d : List D} (r : BL K (L2.Ai O H) v d) (s : Ak H H') : BL K (L2.Ai O H') v d := r.mono (Ds s)
theorem Dl.Ai {O : List Addr} {H H' : Hp} {σ : St} {ρ : Bc} (r : Dl K (L2.Ai O H) σ ρ) (s : Ak H H') : Dl K (L2.Ai O H') σ ρ := r.mono (Ds s)
theorem JL.je {e : Expr} {te : TE} {f : BW} (j : JL X K e te f) : JE X K e te (BV f) := ⟨j.pe, by
  intro O σ H ρ d Q ok er hf q
  have hf' : (f ρ).map PyData.list = some d := hf
  cases e1 : f ρ with
  | none => rw [e1] at hf'; cases hf'
  | some ds =>
    rw [e1] at hf'
    cases hf'
    refine j.pu O σ H ρ ds Q ok er e1 fun a xs H' s hn ha r => q _ H' s ?_
    have na : a ∉ O := ok.fresh hn
    exact .lst (Bg.of (by rw [Cj na]; exact ha)) (r.mono (DQ fun b hb => BK hb))⟩
theorem Ac (i : Nat) {x : Str} {pos : Pos} (hN : X.N[i]? = some x := by rfl) (hv : Fx X.env.scope x := by first | exact Or.inl rfl | exact Or.inr (Or.inl rfl) | exact Or.inr (Or.inr rfl)) (hd : (x == ("__debug__" : Str)) = false := by decide)
    (hcd : (x == ("__classdict__" : Str)) = false := by decide) : JE X K (.Name x pos) (Dm i) (Aa i) := ⟨JH hN hv hd hcd, by
  intro O σ H ρ d Q ok er hf q
  have hf' : (ρ[i]?).join = some d := hf
  have h2 : ρ[i]? = some (some d) := by
    cases e1 : ρ[i]? with
    | none => rw [e1] at hf'; cases hf'
    | some o => rw [e1] at hf'; rw [show o = some d from hf']
  obtain ⟨v, e2, r⟩ := er i d h2
  exact ⟨v, e2, q v H (Ak.refl H) r⟩⟩
theorem VN {v : V} {d : D} (h : ∀ H, Rep K H v d) : Gj K (tC v) (Ad d) := by
  intro O σ H ρ d' Q ok er hf q
  cases hf
  exact q v H (Ak.refl H) (h _)
theorem Ah {i j pos} : JE X K (.Constant (.int i) j pos) (tC (.int i)) (Ad (.int i)) := ⟨AIB, VN fun _ => .int i⟩
theorem Et {b j pos} : JE X K (.Constant (.bool b) j pos) (tC (.bl b)) (Ad (.bool b)) := ⟨AM1, VN fun _ => .bl b⟩
theorem QQ {j pos} : JE X K (.Constant .none j pos) (tC .non) (Ad .none) := ⟨ADH, VN fun _ => .non⟩
theorem AIv {x j pos} : JE X K (.Constant (.str x) j pos) (tC (.str x)) (Ad (.str x)) := ⟨nA, VN fun _ => .str x⟩
theorem Uj {x : Str} {i : Int} {pos : Pos} (hg : Gl X x) (hm : ∃ t, X.mg x = some (.int i t)) (hd : (x == ("__debug__" : Str)) = false := by decide) : JE X K (.Name x pos) (tC (.int i)) (Ad (.int i)) := by
  obtain ⟨t, hm⟩ := hm
  exact ⟨Nt hg hm ⟨t, rfl⟩ hd, VN fun _ => .int i⟩
section
variable {a b c : Expr} {ta tb tc : TE} {fa fb fc : PF} {pos : Pos} {r r' : R2} {g g' : D → D → Option D}
theorem Al {α β : Type} {o : Option α} {f : α → Option β} {b : β} (h : o.bind f = some b) : ∃ x, o = some x ∧ f x = some b := by
  cases o with
  | none => cases h
  | some x => exact ⟨x, rfl, h⟩
theorem W6 (hr : QF K r g) (ha : Gj K ta fa) (hb : Gj K tb fb) : Gj K (HB r ta tb) (Ae g fa fb) := by
  intro O σ H ρ d Q ok er hf q
  obtain ⟨x, e1, hf⟩ := Al hf
  obtain ⟨y, e2, hf⟩ := Al hf
  refine ha O σ H ρ x _ ok er e1 fun v H1 s1 r1 => ?_
  refine hb O σ H1 ρ y _ (ok.mono s1) (er.Ai s1) e2 fun u H2 s2 r2 => ?_
  exact hr O H2 v u x y d Q ((ok.mono s1).mono s2) (r1.Ai s2) r2 hf fun w H3 s3 r3 => q w H3 ((s1.trans s2).trans s3) r3
theorem Ax {op : Operator} (ho : Fj X K (binaryOp op) r g) (ha : JE X K a ta fa) (hb : JE X K b tb fb) : JE X K (.BinOp a op b pos) (HB r ta tb) (Ae g fa fb) :=
  ⟨pI ho.pe ha.pe hb.pe, W6 ho.pu ha.pu hb.pu⟩
theorem K1 {op : CmpOp} (ho : Fj X K (compareOp op) r g) (ha : JE X K a ta fa) (hb : JE X K b tb fb) (hm : behindInMarks op b = false) : JE X K (.Compare a [op] [b] pos) (HB r ta tb) (Ae g fa fb) :=
  ⟨AG6 ho.pe ha.pe hb.pe hm, W6 ho.pu ha.pu hb.pu⟩
theorem Tz {H : Hp} {v : V} {d : D} {b : Bool} (r : Rep K H v d) (h : KD d = some b) : v = .bl b := by
  cases r with
  | bl k => cases h; rfl
  | _ => cases h
theorem cH {t : TE} {f : PF} (h : Gj K t f) : M8 K (Tc t) (BP f) := by
  intro O σ H ρ k Q ok er hf q
  obtain ⟨x, e1, hf⟩ := Al hf
  exact h O σ H ρ x _ ok er e1 fun v H1 s1 r1 => ⟨k, Tz r1 hf, q H1 s1⟩
theorem Cz {op : CmpOp} (ho : Fj X K (compareOp op) r g) (ha : JE X K a ta fa) (hb : JE X K b tb fb) (hm : behindInMarks op b = false) : JT X K (.Compare a [op] [b] pos) (Tc (HB r ta tb)) (BP (Ae g fa fb)) :=
  ⟨AFR ho.pe ha.pe hb.pe hm, cH (W6 ho.pu ha.pu hb.pu)⟩
theorem uU (hr : QF K r g) (hr' : QF K r' g') (ha : Gj K ta fa) (hb : Gj K tb fb) (hc : Gj K tc fc) : Gj K (VM r r' ta tb tc) (Hs g g' fa fb fc) := by
  intro O σ H ρ d Q ok er hf q
  obtain ⟨x, e1, hf⟩ := Al hf
  obtain ⟨y, e2, hf⟩ := Al hf
  obtain ⟨z, e3, hf⟩ := Al hf
  obtain ⟨k, e4, hf⟩ := Al hf
  refine ha O σ H ρ x _ ok er e1 fun v H1 s1 r1 => ?_
  refine hb O σ H1 ρ y _ (ok.mono s1) (er.Ai s1) e2 fun u H2 s2 r2 => ?_
  have ok2 := (ok.mono s1).mono s2
  refine hr O H2 v u x y z _ ok2 (r1.Ai s2) r2 e3 fun w H3 s3 r3 => ⟨k, Tz r3 e4, ?_⟩
  have s13 := (s1.trans s2).trans s3
  cases k with
  | true =>
    rw [if_pos rfl] at hf ⊢
    obtain ⟨u', e5, hf⟩ := Al hf
    refine hc O σ H3 ρ u' _ (ok2.mono s3) (er.Ai s13) e5 fun w' H4 s4 r4 => ?_
    exact hr' O H4 u w' y u' d Q ((ok2.mono s3).mono s4) (r2.Ai (s3.trans s4)) r4 hf fun w2 H5 s5 r5 => q w2 H5 ((s13.trans s4).trans s5) r5
  | false =>
    rw [if_neg Bool.false_ne_true] at hf ⊢
    cases hf
    exact q _ H3 s13 (.bl false)
theorem wV {op op' : CmpOp} (ho : Fj X K (compareOp op) r g) (ho' : Fj X K (compareOp op') r' g') (ha : JE X K a ta fa) (hb : JE X K b tb fb) (hc : JE X K c tc fc) (hm : lastMarks [op, op'] [b, c] = false := by with_unfolding_all rfl) : JE X K (.Compare a [op, op'] [b, c] pos) (VM r r' ta tb tc) (Hs g g' fa fb fc) := ⟨AJK ho.pe ho'.pe ha.pe hb.pe hc.pe hm, uU ho.pu ho'.pu ha.pu hb.pu hc.pu⟩
theorem WQ {op op' : CmpOp} (ho : Fj X K (compareOp op) r g) (ho' : Fj X K (compareOp op') r' g') (ha : JE X K a ta fa) (hb : JE X K b tb fb) (hc : JE X K c tc fc) (hm : lastMarks [op, op'] [b, c] = false := by with_unfolding_all rfl) : JT X K (.Compare a [op, op'] [b, c] pos) (Tc (VM r r' ta tb tc)) (BP (Hs g g' fa fb fc)) := ⟨AH6 ho.pe ho'.pe ha.pe hb.pe hc.pe hm, cH (uU ho.pu ho'.pu ha.pu hb.pu hc.pu)⟩
end
theorem Ri {g : Int → Int → V} {g' : Int → Int → D} (h : ∀ i j H, Rep K H (g i j) (g' i j)) : QF K (HD g) (dI g') := by
  intro O H x y a b d Q ok ra rb hg q
  cases ra with
  | int i =>
    cases rb with
    | int j =>
      cases hg
      exact ⟨i, j, rfl, rfl, q _ H (Ak.refl H) (h i j _)⟩
    | _ => cases hg
  | _ => cases rb <;> cases hg
theorem XJ {C : Int → Int → Prop} {C' : Int → Int → Bool} {g : Int → Int → V} {g' : Int → Int → D} (hC : ∀ i j, C' i j = true → C i j) (h : ∀ i j H, Rep K H (g i j) (g' i j)) : QF K (rI C g) (TQ C' g') := by
  intro O H x y a b d Q ok ra rb hg q
  cases ra with
  | int i =>
    cases rb with
    | int j =>
      have hg' : (if C' i j = true then some (g' i j) else none) = some d := hg
      by_cases hc : C' i j = true
      · rw [if_pos hc] at hg'
        cases hg'
        exact ⟨i, j, rfl, rfl, hC i j hc, q _ H (Ak.refl H) (h i j _)⟩
      · rw [if_neg hc] at hg'
        cases hg'
    | _ => cases hg
  | _ => cases rb <;> cases hg
theorem Fd : Fj X K (binaryOp .Add) (HD fun i j => .int (i + j)) Df := ⟨AON, Ri fun i j H => .int _⟩
theorem HH : Fj X K (binaryOp .Sub) (HD fun i j => .int (i - j)) Eu := ⟨AMC, Ri fun i j H => .int _⟩
theorem Ei : Fj X K (binaryOp .Mult) (rI Wd fun i j => .int (i * j)) DX := ⟨AIZ, XJ (fun i j h => by
  rw [Bool.or_eq_true] at h
  exact h.imp (fun z => of_decide_eq_true z) (fun z => of_decide_eq_true z)) fun i j H => .int _⟩
theorem AGb : El X (binaryOp .FloorDiv) (rI (fun _ j => Wide j) fun i j => .int (i / j)) := W7 fun i j _ _ _ _ _ hc q => by
  have h1 : (0 : Int) < j := hc.1
  exact floordiv_int (by omega) (by rw [Int.fdiv_eq_ediv_of_nonneg i (by omega)]; exact q) (.inl (PyProof.noPylong_of_log2 hc.2))
theorem Eb : Fj X K (binaryOp .FloorDiv) (rI (fun _ j => Wide j) fun i j => .int (i / j)) CJ := ⟨AGb, XJ (fun i j h => AH7 (of_decide_eq_true h)) fun i j H => .int _⟩
theorem Cu : Fj X K (binaryOp .Mod) (rI (fun _ j => 0 < j) fun i j => .int (i % j)) Bl := ⟨AHZ, XJ (fun i j h => of_decide_eq_true h) fun i j H => .int _⟩
theorem Ui : Fj X K (binaryOp .Pow) (rI rD fun i j => .int (i ^ j.toNat)) Ir := ⟨AEW, XJ (fun i j h => (of_decide_eq_true h : 0 ≤ j ∧ j ≤ 1000000 ∧ i.natAbs < 2 ^ 64)) fun i j H => .int _⟩
theorem Vt : Fj X K (compareOp .Lt) (HD fun i j => .bl (decide (i < j))) Ht := ⟨AG1, Ri fun i j H => .bl _⟩
theorem Iw : Fj X K (compareOp .LtE) (HD fun i j => .bl (decide (i ≤ j))) HF := ⟨ANy, Ri fun i j H => .bl _⟩
theorem bN : Fj X K (compareOp .Gt) (HD fun i j => .bl (decide (j < i))) Lp := ⟨ALj, Ri fun i j H => .bl _⟩
theorem rR : Fj X K (compareOp .GtE) (HD fun i j => .bl (decide (j ≤ i))) Xi := ⟨ABs, Ri fun i j H => .bl _⟩
def AGX (K : Frag) : R2 := fun x y H Q => ∃ d e, Rep K H x d ∧ Rep K H y e ∧ SeqAt.shaped d = true ∧ SeqAt.shaped e = true ∧ Q (.bl (PyData.eqv d e)) H
def ANF (K : Frag) : R2 := fun x y H Q => ∃ d e, Rep K H x d ∧ Rep K H y e ∧ SeqAt.shaped d = true ∧ SeqAt.shaped e = true ∧ Q (.bl (!PyData.eqv d e)) H
theorem Fg (hK : X.K = K) (hu : X.A.units + 64 < cLine) : Fj X K (compareOp .Eq) (AGX K) Bx := ⟨by subst hK; exact AI2 hu, by
  intro O H x y a b d Q ok ra rb hg q
  unfold Bx at hg
  by_cases hc : SeqAt.shaped a = true ∧ SeqAt.shaped b = true
  · rw [if_pos hc] at hg
    cases hg
    exact ⟨a, b, ra.mono Dj, rb.mono Dj, hc.1, hc.2, q _ H (Ak.refl H) (.bl _)⟩
  · rw [if_neg hc] at hg
    cases hg⟩
theorem GZ (hK : X.K = K) (hu : X.A.units + 64 < cLine) : Fj X K (compareOp .NotEq) (ANF K) Cm := ⟨by subst hK; exact AMR hu, by
  intro O H x y a b d Q ok ra rb hg q
  unfold Cm at hg
  by_cases hc : SeqAt.shaped a = true ∧ SeqAt.shaped b = true
  · rw [if_pos hc] at hg
    cases hg
    exact ⟨a, b, ra.mono Dj, rb.mono Dj, hc.1, hc.2, q _ H (Ak.refl H) (.bl _)⟩
  · rw [if_neg hc] at hg
    cases hg⟩
theorem xV {H : Hp} {v : V} {d : D} (r : Rep K H v d) : decide (v = .non) = Jf d := by
  cases r <;> simp [Jf]
theorem sU : Fj X K (compareOp .Is) (fun x y H Q => y = .non ∧ Q (.bl (decide (x = .non))) H) Ry := ⟨AL7, by
  intro O H x y a b d Q ok ra rb hg q
  unfold Ry at hg
  by_cases hc : Jf b = true
  · rw [if_pos hc] at hg
    cases hg
    have e : y = .non := of_decide_eq_true (by rw [xV rb]; exact hc)
    refine ⟨e, q _ H (Ak.refl H) ?_⟩
    rw [xV ra]
    exact .bl _
  · rw [if_neg hc] at hg
    cases hg⟩
theorem BL.length {H : Hp} : ∀ {xs : List V} {ds : List D}, BL K H xs ds → xs.length = ds.length
  | _, _, .nil => rfl
  | _, _, .cons _ r => by simp [BL.length r]
theorem BL.get {H : Hp} : ∀ {xs : List V} {ds : List D} {i : Nat} {d : D}, BL K H xs ds → ds[i]? = some d → ∃ x, xs[i]? = some x ∧ Rep K H x d
  | _, _, _, _, .nil, e => by simp at e
  | _, _, 0, _, .cons r _, e => by simp at e; subst e; exact ⟨_, rfl, r⟩
  | _, _, i + 1, d, .cons _ t, e => by
    obtain ⟨u, h1, h2⟩ := BL.get (i := i) (d := d) t (by simpa using e)
    exact ⟨u, by simpa using h1, h2⟩
theorem BL.R3 {H : Hp} : ∀ {xs : List V} {ds : List D} {i : Nat} {x : V}, BL K H xs ds → xs[i]? = some x → ∃ d, ds[i]? = some d ∧ Rep K H x d
  | _, _, _, _, .nil, e => by simp at e
  | _, _, 0, _, .cons r _, e => by simp at e; subst e; exact ⟨_, rfl, r⟩
  | _, _, i + 1, d, .cons _ t, e => by
    obtain ⟨u, h1, h2⟩ := BL.R3 (i := i) (x := d) t (by simpa using e)
    exact ⟨u, by simpa using h1, h2⟩
theorem BL.Cw {H : Hp} {xs : List V} {ds : List D} {i : Int} {d : D} (r : BL K H xs ds) (h : L2.Cw ds i = some d) : ∃ x, L2.Cw xs i = some x ∧ Rep K H x d := by
  unfold L2.Cw at h ⊢
  obtain ⟨j, e1, e2⟩ := Al h
  obtain ⟨x, e3, rx⟩ := r.get e2
  exact ⟨x, by rw [r.length, e1]; exact e3, rx⟩
theorem BL.set {H : Hp} {x : V} {d : D} (q : Rep K H x d) : ∀ {xs : List V} {ds : List D} (i : Nat), BL K H xs ds → BL K H (xs.set i x) (ds.set i d)
  | _, _, _, .nil => .nil
  | _, _, 0, .cons _ t => .cons q t
  | _, _, i + 1, .cons p t => .cons p (BL.set q i t)
theorem BL.append {H : Hp} : ∀ {xs ys : List V} {ds es : List D}, BL K H xs ds → BL K H ys es → BL K H (xs ++ ys) (ds ++ es)
  | _, _, _, _, .nil, s => s
  | _, _, _, _, .cons r t, s => .cons r (BL.append t s)
theorem BL.take {H : Hp} : ∀ {xs : List V} {ds : List D} (n : Nat), BL K H xs ds → BL K H (xs.take n) (ds.take n)
  | _, _, 0, _ => .nil
  | _, _, _ + 1, .nil => .nil
  | _, _, n + 1, .cons r t => .cons r (BL.take n t)
theorem BL.drop {H : Hp} : ∀ {xs : List V} {ds : List D} (n : Nat), BL K H xs ds → BL K H (xs.drop n) (ds.drop n)
  | _, _, 0, r => r
  | _, _, _ + 1, .nil => .nil
  | _, _, n + 1, .cons _ t => BL.drop n t
theorem ACG : QF K (Lx K) Az := by
  intro O H x y a b d Q ok ra rb hg q
  cases rb with
  | int j =>
    cases ra with
    | lst h r =>
      obtain ⟨v, e, rv⟩ := r.Cw hg
      exact .inl ⟨_, _, j, v, rfl, rfl, Dj.seq h, e, q _ H (Ak.refl H) rv⟩
    | tup h r =>
      obtain ⟨v, e, rv⟩ := r.Cw hg
      exact .inr (.inl ⟨_, _, j, v, rfl, rfl, Dj.K3 h, e, q _ H (Ak.refl H) rv⟩)
    | str z =>
      have hg' : (if z.length ≤ sizeLine then (L2.Cw z.cps.toList j).map fun c => PyData.str ⟨#[c]⟩ else none) = some d := hg
      by_cases hz : z.length ≤ sizeLine
      · rw [if_pos hz] at hg'
        cases e : L2.Cw z.cps.toList j with
        | none => rw [e] at hg'; cases hg'
        | some c =>
          rw [e] at hg'
          cases hg'
          exact .inr (.inr ⟨z, j, c, rfl, rfl, hz, e, q _ H (Ak.refl H) (.str _)⟩)
      · rw [if_neg hz] at hg'
        cases hg'
    | _ => cases hg
  | _ => cases ra <;> cases hg
theorem Bu {a b : Expr} {ta tb : TE} {fa fb : PF} {pos : Pos} (hK : X.K = K) (ha : JE X K a ta fa) (hb : JE X K b tb fb) (hs : N5 b) : JE X K (.Subscript a b pos) (HB (Lx K) ta tb) (Ae Az fa fb) :=
  ⟨by subst hK; exact Us Vr ha.pe hb.pe hs, W6 ACG ha.pu hb.pu⟩
theorem AMP {a : Expr} {ta : TE} {fa : PF} {pos : Pos} (ha : JE X K a ta fa) : JE X K (.UnaryOp .USub a pos) (iC (rU fun i => .int (-i)) ta) (Nf Q5 fa) := ⟨AGR AMx ha.pe, by
  intro O σ H ρ d Q ok er hf q
  obtain ⟨x, e1, hf⟩ := Al hf
  refine ha.pu O σ H ρ x _ ok er e1 fun v H1 s1 r1 => ?_
  cases r1 with
  | int i => cases hf; exact ⟨i, rfl, q _ H1 s1 (.int _)⟩
  | _ => cases hf⟩
section
variable {a b c e : Expr} {rest : List Expr} {ta tb tc t : TE} {tA tB' : TT} {fa fb fc f : PF} {pa pb : PB} {pos : Pos}
theorem Jl (h : JE X K e t f) (he : ∀ whole, isTrue e X.env whole = (do let v ← whole; standAt e.pos; holding [v] (truthy v)) := by intro _; rfl) : JT X K e (tB t) (BP f) := ⟨ANm h.pe he, cH h.pu⟩
theorem Ib (ha : JT X K a tA pa) : JT X K (.UnaryOp .Not a pos) (mQ tA) (Ez pa) := ⟨AGB ha.pe, by
  intro O σ H ρ k Q ok er hf q
  cases e1 : pa ρ with
  | none => rw [show Ez pa ρ = (pa ρ).map (!·) from rfl, e1] at hf; cases hf
  | some x =>
    rw [show Ez pa ρ = (pa ρ).map (!·) from rfl, e1] at hf
    cases hf
    exact ha.pu O σ H ρ x _ ok er e1 fun H1 s1 => q H1 s1⟩
theorem R7 (ha : JT X K a tA pa) : JW X K (.BoolOp .And [a] pos) tA pa := ⟨AJ1 ha.pe, ha.pu⟩
theorem MT (ha : JT X K a tA pa) : JW X K (.BoolOp .Or [a] pos) tA pa := ⟨AGi ha.pe, ha.pu⟩
theorem Sx (ha : JT X K a tA pa) (hb : JW X K (.BoolOp .And (b :: rest) pos) tB' pb) : JW X K (.BoolOp .And (a :: b :: rest) pos) (tQ tA tB') (Gi pa pb) := ⟨AIC ha.pe hb.pe, by
  intro O σ H ρ k Q ok er hf q
  obtain ⟨x, e1, hf⟩ := Al hf
  refine ha.pu O σ H ρ x _ ok er e1 fun H1 s1 => ?_
  cases x with
  | true =>
    rw [if_pos rfl] at hf ⊢
    exact hb.pu O σ H1 ρ k Q (ok.mono s1) (er.Ai s1) hf fun H2 s2 => q H2 (s1.trans s2)
  | false =>
    rw [if_neg Bool.false_ne_true] at hf ⊢
    cases hf
    exact q H1 s1⟩
theorem Kz (ha : JT X K a tA pa) (hb : JW X K (.BoolOp .Or (b :: rest) pos) tB' pb) : JW X K (.BoolOp .Or (a :: b :: rest) pos) (rZ tA tB') (GF pa pb) := ⟨AMm ha.pe hb.pe, by
  intro O σ H ρ k Q ok er hf q
  obtain ⟨x, e1, hf⟩ := Al hf
  refine ha.pu O σ H ρ x _ ok er e1 fun H1 s1 => ?_
  cases x with
  | true =>
    rw [if_pos rfl] at hf ⊢
    cases hf
    exact q H1 s1
  | false =>
    rw [if_neg Bool.false_ne_true] at hf ⊢
    exact hb.pu O σ H1 ρ k Q (ok.mono s1) (er.Ai s1) hf fun H2 s2 => q H2 (s1.trans s2)⟩
theorem JW.jt (h : JW X K e tA pa) : JT X K e tA pa := ⟨h.pe.pt, h.pu⟩
theorem KQ {op} (h : JE X K a ta fa) : JE X K (.BoolOp op [a] pos) ta fa := ⟨AIm h.pe, h.pu⟩
theorem Hw (ha : JE X K a ta fa) (hb : JE X K (.BoolOp .And (b :: rest) pos) tb fb) : JE X K (.BoolOp .And (a :: b :: rest) pos) (vR ta tb) (Gp fa fb) := ⟨ABI ha.pe hb.pe, by
  intro O σ H ρ k Q ok er hf q
  obtain ⟨x, e1, hf⟩ := Al hf
  obtain ⟨z, e2, hf⟩ := Al hf
  refine ha.pu O σ H ρ x _ ok er e1 fun v H1 s1 r1 => ⟨z, Tz r1 e2, ?_⟩
  cases z with
  | true =>
    rw [if_pos rfl] at hf ⊢
    exact hb.pu O σ H1 ρ k Q (ok.mono s1) (er.Ai s1) hf fun v H2 s2 => q v H2 (s1.trans s2)
  | false =>
    rw [if_neg Bool.false_ne_true] at hf ⊢
    cases hf
    exact q _ H1 s1 (.bl _)⟩
theorem AFZ (ha : JE X K a ta fa) (hb : JE X K (.BoolOp .Or (b :: rest) pos) tb fb) : JE X K (.BoolOp .Or (a :: b :: rest) pos) (uA ta tb) (T7 fa fb) := ⟨ALO ha.pe hb.pe, by
  intro O σ H ρ k Q ok er hf q
  obtain ⟨x, e1, hf⟩ := Al hf
  obtain ⟨z, e2, hf⟩ := Al hf
  refine ha.pu O σ H ρ x _ ok er e1 fun v H1 s1 r1 => ⟨z, Tz r1 e2, ?_⟩
  cases z with
  | true =>
    rw [if_pos rfl] at hf ⊢
    cases hf
    exact q _ H1 s1 (.bl _)
  | false =>
    rw [if_neg Bool.false_ne_true] at hf ⊢
    exact hb.pu O σ H1 ρ k Q (ok.mono s1) (er.Ai s1) hf fun v H2 s2 => q v H2 (s1.trans s2)⟩
theorem AMi (ha : JE X K a ta fa) : JE X K (.UnaryOp .Not a pos) (yG ta) (WM fa) := ⟨ALg ha.pe, by
  intro O σ H ρ k Q ok er hf q
  obtain ⟨x, e1, hf⟩ := Al hf
  obtain ⟨z, e2, hf⟩ := Al hf
  cases hf
  exact ha.pu O σ H ρ x _ ok er e1 fun v H1 s1 r1 => ⟨z, Tz r1 e2, q _ H1 s1 (.bl _)⟩⟩
theorem AK8 (hc : JT X K c tA pa) (ha : JE X K a ta fa) (hb : JE X K b tb fb) : JE X K (.IfExp c a b pos) (qX tA ta tb) (WK pa fa fb) := ⟨AKq hc.pe ha.pe hb.pe, by
  intro O σ H ρ k Q ok er hf q
  obtain ⟨x, e1, hf⟩ := Al hf
  refine hc.pu O σ H ρ x _ ok er e1 fun H1 s1 => ?_
  cases x with
  | true =>
    rw [if_pos rfl] at hf ⊢
    exact ha.pu O σ H1 ρ k Q (ok.mono s1) (er.Ai s1) hf fun v H2 s2 => q v H2 (s1.trans s2)
  | false =>
    rw [if_neg Bool.false_ne_true] at hf ⊢
    exact hb.pu O σ H1 ρ k Q (ok.mono s1) (er.Ai s1) hf fun v H2 s2 => q v H2 (s1.trans s2)⟩
end
section
variable {e : Expr} {es : List Expr} {te : TE} {t : TA} {f : PF} {r : BW} {pos : Pos}
theorem Aj : JA X K [] Gd Ag := ⟨HY, by
  intro O σ H ρ ds Q ok er hf q
  cases hf
  exact q [] H (Ak.refl H) .nil⟩
theorem Af (ha : JE X K e te f) (hr : JA X K es t r) (hs : starEach (e :: es) X.env = (false, eval e X.env) :: starEach es X.env := by rfl) : JA X K (e :: es) (GD te t) (Ab f r) := ⟨Eo ha.pe hr.pe hs, by
  intro O σ H ρ ds Q ok er hf q
  obtain ⟨x, e1, hf⟩ := Al hf
  obtain ⟨xs, e2, hf⟩ := Al hf
  cases hf
  refine ha.pu O σ H ρ x _ ok er e1 fun v H1 s1 r1 => ?_
  exact hr.pu O σ H1 ρ xs _ (ok.mono s1) (er.Ai s1) e2 fun vs H2 s2 r2 => q (v :: vs) H2 (s1.trans s2) (.cons (r1.Ai s2) r2)⟩
theorem WY {n : Nat} (h : fits n = true) : n ≤ sizeLine := Nat.le_of_lt (of_decide_eq_true h)
theorem Cv {x1} (h : JA X K es t r) : JE X K (.Tuple es x1 pos) (dM t) (Bt r) := ⟨qT h.pe, by
  intro O σ H ρ d Q ok er hf q
  obtain ⟨xs, e1, hf⟩ := Al hf
  by_cases hc : fits xs.length = true
  · rw [if_pos hc] at hf
    cases hf
    refine h.pu O σ H ρ xs _ ok er e1 fun vs H1 s1 r1 => ⟨by rw [r1.length]; exact WY hc, fun p hp => ?_⟩
    have sn : Ak H1 (upd H1 p (.tup vs)) := Ak.new hp
    refine q _ _ (s1.trans sn) (.tup (Dt.of ?_) (r1.Ai sn))
    rw [Cj ((ok.mono s1).fresh hp)]
    exact Dg
  · rw [if_neg hc] at hf
    cases hf⟩
theorem DY (h : JA X K es t r) : JL X K (.List es pos) (Wz t) (CQ r) := ⟨cT h.pe, by
  intro O σ H ρ d Q ok er hf q
  obtain ⟨xs, e1, hf⟩ := Al hf
  by_cases hc : fits xs.length = true
  · rw [if_pos hc] at hf
    obtain rfl : xs = d := Option.some.inj hf
    refine h.pu O σ H ρ xs _ ok er e1 fun vs H1 s1 r1 => ⟨by rw [r1.length]; exact WY hc, fun p hp => ?_⟩
    have sn : Ak H1 (upd H1 p (.lst vs)) := Ak.new hp
    refine q p vs _ (s1.trans sn) (s1.free hp) Dg ?_
    exact r1.mono (Sh hp)
  · rw [if_neg hc] at hf
    cases hf⟩
end
end
def Ay (K : Frag) (n : Nat) (f : List D → Option D) : Sp := fun vs H Q _ => vs.length = n ∧ ∃ (O : List Addr) (ds : List D) (d : D), CP O H ∧ BL K (Ai O H) vs ds ∧ f ds = some d ∧ ∀ v H', Ak H H' → Rep K (Ai O H') v d → Q v H'
def CT (K : Frag) (n : Nat) (f : List D → Option (List D)) : Sp := fun vs H Q _ => vs.length = n ∧ ∃ (O : List Addr) (ds es : List D), CP O H ∧ BL K (Ai O H) vs ds ∧ f ds = some es ∧
  ∀ a xs H', Ak H H' → H a = none → H' a = some (.lst xs) → BL K (Ai (a :: O) H') xs es → Q (.ref a) H'
def J4 (n : Nat) {α : Type} (f : List D → Option α) : Prop := ∀ ds a, f ds = some a → ds.length = n
section
variable {X : Cx} {K : Frag} {k n : Nat} {x : Str} {ps : List Str} {p pos : Pos} {e : Expr} {es : List Expr} {t : TA} {r : BW}
theorem Bv {f : List D → Option D} (C : Callee X.prog X.w X.K X.mg X.base k x ps (Ay K n f)) (hf : J4 n f) (hr : Ck k X.A) (hg : Gl X x) (ha : JA X K (e :: es) t r) (hdb : (x == ("__debug__" : Str)) = false := by decide)
    (hst : starEach (e :: es) X.env = (false, eval e X.env) :: starEach es X.env := by rfl) (hpl : (backTo pos (starEach es X.env)).any (·.1) = false := by rfl) : JE X K (.Call (.Name x p) (e :: es) [] pos) (Uh (Ay K n f) [] E0 t) (Ar f r) := ⟨fU C hr hg ha.pe hdb hst hpl, by
  intro O σ H ρ d Q ok er h q
  obtain ⟨ds, e1, h⟩ := Al h
  refine ha.pu O σ H ρ ds _ ok er e1 fun vs H1 s1 r1 => ?_
  rw [List.append_nil]
  exact ⟨by rw [r1.length]; exact hf ds d h, O, ds, d, ok.mono s1, r1, h, fun v H' s' rv => q v H' (s1.trans s') rv⟩⟩
theorem HJ {f : List D → Option (List D)} (C : Callee X.prog X.w X.K X.mg X.base k x ps (CT K n f)) (hf : J4 n f) (hr : Ck k X.A) (hg : Gl X x) (ha : JA X K (e :: es) t r) (hdb : (x == ("__debug__" : Str)) = false := by decide)
    (hst : starEach (e :: es) X.env = (false, eval e X.env) :: starEach es X.env := by rfl) (hpl : (backTo pos (starEach es X.env)).any (·.1) = false := by rfl) : JL X K (.Call (.Name x p) (e :: es) [] pos) (Uh (CT K n f) [] E0 t) (Bm f r) := ⟨fU C hr hg ha.pe hdb hst hpl, by
  intro O σ H ρ d Q ok er h q
  obtain ⟨ds, e1, h⟩ := Al h
  refine ha.pu O σ H ρ ds _ ok er e1 fun vs H1 s1 r1 => ?_
  rw [List.append_nil]
  exact ⟨by rw [r1.length]; exact hf ds d h, O, ds, d, ok.mono s1, r1, h, fun a xs H' s' hn ha' rv => q a xs H' (s1.trans s') (s1.free hn) ha' rv⟩⟩
theorem Du {id : String} {rc : List V → Hp → VK → Prop} {g : List D → Option D} (hc : Mt X K (.builtin id) rc g) (hg : Gl X x) (hm : X.mg x = none) (hv : bootBuiltins x = some (.builtin id)) (ha : JA X K (e :: es) t r) (hn : x ≠ "__name__" := by decide) (hdb : (x == ("__debug__" : Str)) = false := by decide)
    (he : starEach (e :: es) X.env = (false, eval e X.env) :: starEach es X.env := by rfl) (hpl : (backTo pos (starEach es X.env)).any (·.1) = false := by rfl) : JE X K (.Call (.Name x p) (e :: es) [] pos) (J9 rc t) (Ar g r) := ⟨Qo hc.pe hg hm hv ha.pe hn hdb he hpl, by
  intro O σ H ρ d Q ok er h q
  obtain ⟨ds, e1, h⟩ := Al h
  exact ha.pu O σ H ρ ds _ ok er e1 fun vs H1 s1 r1 => hc.pu O H1 vs ds d Q (ok.mono s1) r1 h fun v H' s' rv => q v H' (s1.trans s') rv⟩
theorem rA {T : String} {rc : List V → Hp → VK → Prop} {g : List D → Option D} (hc : Mt X K (.type T) rc g) (hg : Gl X x) (hm : X.mg x = none) (hv : bootBuiltins x = some (.type T)) (ha : JA X K (e :: es) t r) (hn : x ≠ "__name__" := by decide) (hdb : (x == ("__debug__" : Str)) = false := by decide)
    (he : starEach (e :: es) X.env = (false, eval e X.env) :: starEach es X.env := by rfl) (hpl : (backTo pos (starEach es X.env)).any (·.1) = false := by rfl) : JE X K (.Call (.Name x p) (e :: es) [] pos) (J9 rc t) (Ar g r) := ⟨Wb hc.pe hg hm hv ha.pe hn hdb he hpl, by
  intro O σ H ρ d Q ok er h q
  obtain ⟨ds, e1, h⟩ := Al h
  exact ha.pu O σ H ρ ds _ ok er e1 fun vs H1 s1 r1 => hc.pu O H1 vs ds d Q (ok.mono s1) r1 h fun v H' s' rv => q v H' (s1.trans s') rv⟩
theorem Sd {T : String} {rc : List V → Hp → VK → Prop} {g : List D → Option (List D)} (hc : kZ X K (.type T) rc g) (hg : Gl X x) (hm : X.mg x = none) (hv : bootBuiltins x = some (.type T)) (ha : JA X K (e :: es) t r) (hn : x ≠ "__name__" := by decide) (hdb : (x == ("__debug__" : Str)) = false := by decide)
    (he : starEach (e :: es) X.env = (false, eval e X.env) :: starEach es X.env := by rfl) (hpl : (backTo pos (starEach es X.env)).any (·.1) = false := by rfl) : JL X K (.Call (.Name x p) (e :: es) [] pos) (J9 rc t) (Bm g r) := ⟨Wb hc.pe hg hm hv ha.pe hn hdb he hpl, by
  intro O σ H ρ d Q ok er h q
  obtain ⟨ds, e1, h⟩ := Al h
  exact ha.pu O σ H ρ ds _ ok er e1 fun vs H1 s1 r1 => hc.pu O H1 vs ds d Q (ok.mono s1) r1 h fun a xs H' s' hn2 ha2 rv => q a xs H' (s1.trans s') (s1.free hn2) ha2 rv⟩
end
end L2
namespace L2
open PySem PySem.Spec PyProof.Rows
section
variable {X : Cx} {K : Frag}
def CG : List D → Option D
  | [.list ds] => some (.int ds.length)
  | [.tuple ds] => some (.int ds.length)
  | _ => none
def Fy : List D → Option (List D)
  | [.list ds] => some ds
  | [.tuple ds] => some ds
  | _ => none
def PL : List D → Option (List Bool)
  | [] => some []
  | .bool b :: r => (PL r).bind fun bs => some (b :: bs)
  | _ => none
def KJ : List D → Option D
  | [.list ds] => (PL ds).bind fun bs => some (.bool (bs.all id))
  | _ => none
def Ml : List D → Option D
  | [.int i, .int j] => some (.int (max i j))
  | _ => none
def AJu : List D → Option D
  | [.int i, .int j] => some (.int (min i j))
  | _ => none
def LR : List D → Option D
  | [.int i] => some (.int i)
  | [.bool b] => some (.int (if b then 1 else 0))
  | _ => none
theorem rep1 {H : Hp} {vs : List V} {d : D} (r : BL K H vs [d]) : ∃ v, vs = [v] ∧ Rep K H v d := by
  cases r with
  | cons a b => cases b; exact ⟨_, rfl, a⟩
theorem rep2 {H : Hp} {vs : List V} {d e : D} (r : BL K H vs [d, e]) : ∃ v u, vs = [v, u] ∧ Rep K H v d ∧ Rep K H u e := by
  cases r with
  | cons a b =>
    obtain ⟨u, e1, r2⟩ := rep1 b
    exact ⟨_, u, by rw [e1], a, r2⟩
theorem Ew (hK : X.K = K) : Mt X K (.builtin "len") (fun xs H Q => ∃ p ys, xs = [.ref p] ∧ (Bg K H p ys ∨ Dt K H p ys) ∧ Q (.int ys.length) H) CG := ⟨by subst hK; exact AK4, by
  intro O H vs ds d Q ok r hg q
  unfold CG at hg
  split at hg
  · rename_i es
    cases hg
    obtain ⟨v, rfl, r1⟩ := rep1 r
    cases r1 with
    | lst h r' => exact ⟨_, _, rfl, .inl (Dj.seq h), by rw [r'.length]; exact q _ H (Ak.refl H) (.int _)⟩
  · rename_i es
    cases hg
    obtain ⟨v, rfl, r1⟩ := rep1 r
    cases r1 with
    | tup h r' => exact ⟨_, _, rfl, .inr (Dj.K3 h), by rw [r'.length]; exact q _ H (Ak.refl H) (.int _)⟩
  · cases hg⟩
theorem Q4 (hK : X.K = K) : kZ X K (.type "list") (fun xs H Q => ∃ p ys, xs = [.ref p] ∧ (Bg K H p ys ∨ Dt K H p ys) ∧ ∀ l, H l = none → Q (.ref l) (upd H l (.lst ys))) Fy := ⟨by subst hK; exact AKz, by
  intro O H vs ds d Q ok r hg q
  unfold Fy at hg
  split at hg
  · rename_i es
    cases hg
    obtain ⟨v, rfl, r1⟩ := rep1 r
    cases r1 with
    | lst h r' => exact ⟨_, _, rfl, .inl (Dj.seq h), fun l hl => q l _ _ (Ak.new hl) hl Dg (r'.mono (Sh hl))⟩
  · rename_i es
    cases hg
    obtain ⟨v, rfl, r1⟩ := rep1 r
    cases r1 with
    | tup h r' => exact ⟨_, _, rfl, .inr (Dj.K3 h), fun l hl => q l _ _ (Ak.new hl) hl Dg (r'.mono (Sh hl))⟩
  · cases hg⟩
theorem qD {H : Hp} : ∀ {vs : List V} {ds : List D} {bs : List Bool}, BL K H vs ds → PL ds = some bs → vs = bs.map V.bl
  | _, _, _, .nil, h => by cases h; rfl
  | _, _, _, .cons (.bl b) t, h => by
    obtain ⟨bs, e, h⟩ := Al h
    cases h
    rw [qD t e]
    rfl
  | _, _, _, .cons .non t, h => by cases h
  | _, _, _, .cons (.int _) t, h => by cases h
  | _, _, _, .cons (.str _) t, h => by cases h
  | _, _, _, .cons (.lst _ _) t, h => by cases h
  | _, _, _, .cons (.tup _ _) t, h => by cases h
theorem dX (hK : X.K = K) (hh : X.A.handled = none) : Mt X K (.builtin "all") (fun xs H Q => ∃ (a : Addr) (bs : List Bool), xs = [.ref a] ∧ Bg K H a (bs.map V.bl) ∧ Q (.bl (bs.all id)) H) KJ := ⟨by
  subst hK
  intro pins s σ H xs us Q I r h
  exact AM7 pins s σ H xs us Q I r ⟨hh, h⟩, by
  intro O H vs ds d Q ok r hg q
  unfold KJ at hg
  split at hg
  · rename_i es
    obtain ⟨bs, e, hg⟩ := Al hg
    cases hg
    obtain ⟨v, rfl, r1⟩ := rep1 r
    cases r1 with
    | lst h r' =>
      have e2 := qD r' e
      subst e2
      exact ⟨_, bs, rfl, Dj.seq h, q _ H (Ak.refl H) (.bl _)⟩
  · cases hg⟩
theorem tE (hc : X.calm = true) : Mt X K (.builtin "max") (fun xs H Q => ∃ i j, xs = [.int i, .int j] ∧ Q (.int (if j > i then j else i)) H) Ml := ⟨ANR hc, by
  intro O H vs ds d Q ok r hg q
  unfold Ml at hg
  split at hg
  · rename_i i j
    cases hg
    obtain ⟨v, u, rfl, r1, r2⟩ := rep2 r
    cases r1
    cases r2
    refine ⟨i, j, rfl, ?_⟩
    have e : (if j > i then j else i) = max i j := by omega
    rw [e]
    exact q _ H (Ak.refl H) (.int _)
  · cases hg⟩
theorem ABx : Mt X K (.type "int") (fun xs H Q => (∃ i, xs = [.int i] ∧ Q (.int i) H) ∨ ∃ k, xs = [.bl k] ∧ Q (.int (if k then 1 else 0)) H) LR := ⟨AG8, by
  intro O H vs ds d Q ok r hg q
  unfold LR at hg
  split at hg
  · rename_i i
    cases hg
    obtain ⟨v, rfl, r1⟩ := rep1 r
    cases r1
    exact .inl ⟨i, rfl, q _ H (Ak.refl H) (.int _)⟩
  · rename_i b
    cases hg
    obtain ⟨v, rfl, r1⟩ := rep1 r
    cases r1
    exact .inr ⟨b, rfl, q _ H (Ak.refl H) (.int _)⟩
  · cases hg⟩
def Gv : D → String
  | .none => "NoneType"
  | .bool _ => "bool"
  | .int _ => "int"
  | .str _ => "str"
  | .list _ => "list"
  | .tuple _ => "tuple"
  | .dict [] => "dict"
  | .dict (_ :: _) => "object"
def JR (U : String) (f : PF) : PF := fun ρ => (f ρ).bind fun d => some (.bool (Ip (Gv d) U))
theorem AHE {pins : List (Addr × Obj)} {σ : St} {H : Hp} {s : Shared} {Q : Value → Shared → Prop} {E : Value → Shared → Prop} {A : Around} {x : V} {u : Value} {d : D} {U : String} (I : Inv X pins σ H s) (r : Rep X.K H x d) (rx : RelV x u) (hU : U ∈ ["bool", "int", "str", "list", "tuple"]) (h : ∀ tk, Q (.bool (Ip (Gv d) U)) { s with toks := tk }) : wpAny (model X.prog X.w) A (call (.builtin "isinstance") [u, .type U]) Q E s := by
  cases r with
  | non => exact S5 I rx .non (PX X.K "NoneType" U (by simp) hU) h
  | bl b => exact S5 I rx (.bl b) (PX X.K "bool" U (by simp) hU) h
  | int i => exact S5 I rx (.int i) (PX X.K "int" U (by simp) hU) h
  | str i => exact S5 I rx (.str i) (PX X.K "str" U (by simp) hU) h
  | lst q r' =>
    cases rx
    obtain ⟨its, _, pl, _⟩ := I.list q
    exact kia_one PySem.W.kitx_list I.DW pl.isList.typeIs (PX X.K "list" U (by simp) hU) (fun z => nomatch z) h
  | tup q r' =>
    cases rx
    obtain ⟨its, _, pl, _⟩ := I.tuple q
    exact kia_one PySem.W.kitx_tuple I.DW pl.typeIs (PX X.K "tuple" U (by simp) hU) (fun z => nomatch z) h
  | dic e => exact S5 I rx (.dK e) (PX X.K "dict" U (by simp) hU) h
  | obj k e _ z =>
    subst z
    have hf : ∀ (ks : List Str) (ds : List D), Ip (Gv (.dict (Dq ks ds))) U = false := fun ks ds => by
      simp only [List.mem_cons, List.mem_nil_iff, or_false] at hU
      rcases hU with rfl | rfl | rfl | rfl | rfl <;> rfl
    rw [hf] at h
    exact S5 I rx (.ins e k.cl k.ha k.hn k.htk k.hm) (k.ki U hU) h
theorem AAk (K : Frag) (hK : X.K = K) : Gz X (.builtin "isinstance") (fun xs H Q => ∃ x d U, xs = [x, .ty U] ∧ Rep K H x d ∧ U ∈ ["bool", "int", "str", "list", "tuple"] ∧ Q (.bl (Ip (Gv d) U)) H) := by
  subst hK
  intro pins s σ H xs us Q I r h
  obtain ⟨x, d, U, rfl, rd, hU, q⟩ := h
  obtain ⟨u, u', rfl, rx, ry⟩ := vals2 r
  obtain rfl : u' = Value.type U := ry
  exact AHE I rd rx hU fun tk => ⟨.bl _, H, I.tok tk, rfl, q⟩
theorem Lb {e : Expr} {te : TE} {f : PF} {p p2 pos : Pos} {y : Str} (U : String) (hK : X.K = K) (hU : U ∈ ["bool", "int", "str", "list", "tuple"]) (hg : Gl X "isinstance") (hm : X.mg "isinstance" = none) (hg2 : Gl X y) (hm2 : X.mg y = none) (hv2 : bootBuiltins y = some (.type U)) (ha : JE X K e te f) (hn : y ≠ "__name__" := by decide) (hd : (y == ("__debug__" : Str)) = false := by decide)
    (he : starEach [e, .Name y p2] X.env = (false, eval e X.env) :: starEach [.Name y p2] X.env := by rfl) (he2 : starEach [.Name y p2] X.env = (false, eval (.Name y p2) X.env) :: starEach [] X.env := by rfl) (hpl : (backTo pos (starEach [.Name y p2] X.env)).any (·.1) = false := by rfl) :
    JE X K (.Call (.Name "isinstance" p) [e, .Name y p2] [] pos) (J9 (fun xs H Q => ∃ x d U, xs = [x, .ty U] ∧ Rep K H x d ∧ U ∈ ["bool", "int", "str", "list", "tuple"] ∧ Q (.bl (Ip (Gv d) U)) H) (GD te (GD (tC (.ty U)) Gd))) (JR U f) :=
  ⟨Qo (AAk K hK) hg hm boot_isinstance (Eo ha.pe (Eo (iV hg2 hm2 hv2 rfl hn hd) HY he2) he) (by decide) (by decide) he hpl, by
  intro O σ H ρ d Q ok er h q
  obtain ⟨x, e1, h⟩ := Al h
  cases h
  refine ha.pu O σ H ρ x _ ok er e1 fun v H1 s1 r1 => ?_
  exact ⟨v, x, U, rfl, r1.mono Dj, hU, q _ H1 s1 (.bl _)⟩⟩
def PuO (K : Frag) (t : TO) (f : Bc → Option (Option Int)) : Prop := ∀ (O : List Addr) (σ : St) (H : Hp) (ρ : Bc) (b : Option Int) (Q : Option Int → Hp → Prop), CP O H → Dl K (Ai O H) σ ρ → f ρ = some b →
  (∀ H', Ak H H' → Q b H') → t σ H Q
structure JO (X : Cx) (K : Frag) (e : Option Expr) (t : TO) (f : Bc → Option (Option Int)) : Prop where
  pe : PO X e t
  pu : PuO K t f
def Jd : D → Option Int
  | .int i => some i
  | _ => none
def Gs : Bc → Option (Option Int) := fun _ => some none
def GC (f : PF) : Bc → Option (Option Int) := fun ρ => (f ρ).bind fun d => (Jd d).bind fun i => some (some i)
theorem Nq : JO X K none uP Gs := ⟨ALt, by
  intro O σ H ρ b Q ok er h q
  cases h
  exact q H (Ak.refl H)⟩
theorem KN {e : Expr} {te : TE} {f : PF} (h : JE X K e te f) : JO X K (some e) (vH te) (GC f) := ⟨ABK h.pe, by
  intro O σ H ρ b Q ok er hf q
  obtain ⟨x, e1, hf⟩ := Al hf
  obtain ⟨i, e2, hf⟩ := Al hf
  cases hf
  refine h.pu O σ H ρ x _ ok er e1 fun v H1 s1 r1 => ?_
  cases r1 with
  | int j => cases e2; exact ⟨_, rfl, q H1 s1⟩
  | _ => cases e2⟩
def cutD (xs : List D) (lo hi : Option Int) : List D := (xs.drop (HT.Di xs.length 0 lo)).take (HT.Di xs.length xs.length hi - HT.Di xs.length 0 lo)
theorem BL.cut {H : Hp} {xs : List V} {ds : List D} (r : BL K H xs ds) (lo hi : Option Int) : BL K H (RW xs lo hi) (cutD ds lo hi) := by
  unfold RW cutD
  rw [r.length]
  exact (r.drop _).take _
def La : D → Option (List D)
  | .list ds => some ds
  | _ => none
def qQ : D → Option (List D)
  | .tuple ds => some ds
  | _ => none
def Fl (f : PF) (l u : Bc → Option (Option Int)) : BW := fun ρ => (f ρ).bind fun d => (l ρ).bind fun lo => (u ρ).bind fun hi => (La d).bind fun ds => some (cutD ds lo hi)
theorem Le {e : Expr} {te : TE} {f : PF} {lo hi : Option Expr} {tl th : TO} {fl fh : Bc → Option (Option Int)} {p2 pos : Pos} (hK : X.K = K) (he : JE X K e te f) (hl : JO X K lo tl fl) (hu : JO X K hi th fh) :
    JL X K (.Subscript e (.Slice lo hi none p2) pos) (j0 (xQ K) te tl th) (Fl f fl fh) := ⟨by subst hK; exact AAf AEa he.pe hl.pe hu.pe, by
  intro O σ H ρ ds Q ok er hf q
  obtain ⟨x, e1, hf⟩ := Al hf
  obtain ⟨l, e2, hf⟩ := Al hf
  obtain ⟨u, e3, hf⟩ := Al hf
  obtain ⟨es, e4, hf⟩ := Al hf
  cases hf
  refine he.pu O σ H ρ x _ ok er e1 fun v H1 s1 r1 => ?_
  refine hl.pu O σ H1 ρ l _ (ok.mono s1) (er.Ai s1) e2 fun H2 s2 => ?_
  refine hu.pu O σ H2 ρ u _ ((ok.mono s1).mono s2) (er.Ai (s1.trans s2)) e3 fun H3 s3 => ?_
  have r3 := r1.Ai (s2.trans s3)
  cases r3 with
  | lst h r' =>
    cases e4
    refine ⟨_, _, rfl, Dj.seq h, fun p hp => ?_⟩
    have s03 := (s1.trans s2).trans s3
    exact q p _ _ (s03.trans (Ak.new hp)) (s03.free hp) Dg ((r'.cut l u).mono (Sh hp))
  | _ => cases e4⟩
def m7 (K : Frag) : R2 := fun x y H Q => ∃ l b xs zs, x = .ref l ∧ y = .ref b ∧ Bg K H l xs ∧ Bg K H b zs ∧ xs.length + zs.length ≤ sizeLine ∧ ∀ p, H p = none → Q (.ref p) (upd H p (.lst (xs ++ zs)))
theorem AHU : El X (binaryOp .Add) (m7 X.K) := by
  intro pins s σ H x y v u Q I rx ry h
  obtain ⟨l, b, xs, zs, rfl, rfl, hH, hB, hz, q⟩ := h
  cases rx
  cases ry
  obtain ⟨its, r, pl, hl⟩ := I.list hH
  obtain ⟨its2, r2, pl2, hl2⟩ := I.list hB
  obtain ⟨⟨cls, dd, data, sl⟩, n, ho, hc, hd, hs⟩ := pl
  obtain ⟨⟨cls2, dd2, data2, sl2⟩, n2, ho2, hc2, hd2, hs2⟩ := pl2
  simp only at hc hd hs hc2 hd2 hs2
  subst hc hd hs hc2 hd2 hs2
  have e : its.toArray ++ its2.toArray = (its ++ its2).toArray := by simp
  refine concat_meets ⟨_, ho, rfl⟩ ⟨_, ho2, rfl⟩ noFill_list_add seq_list_add PySem.F.slot_list_add PySem.F.entry_list_add (PySem.F.args_list_add_2 _ _) (list_addW l b its.toArray its2.toArray n n2 none none sl sl2 (by have := r.length; have := r2.length; simp; omega)) ⟨ho, ho2, ?_⟩
  rw [e]
  exact ⟨.ref _, _, I.jW (t' := s.toks) (r.append r2) (by rw [List.length_append]; omega), rfl, q _ I.fresh⟩
def Gy (a b : PF) : BW := fun ρ => (a ρ).bind fun x => (b ρ).bind fun y => (La x).bind fun xs => (La y).bind fun ys => if fits (xs.length + ys.length) = true then some (xs ++ ys) else none
theorem Rw {a b : Expr} {ta tb : TE} {fa fb : PF} {pos : Pos} (hK : X.K = K) (ha : JE X K a ta fa) (hb : JE X K b tb fb) : JL X K (.BinOp a .Add b pos) (HB (m7 K) ta tb) (Gy fa fb) := ⟨by subst hK; exact pI AHU ha.pe hb.pe, by
  intro O σ H ρ ds Q ok er hf q
  obtain ⟨x, e1, hf⟩ := Al hf
  obtain ⟨y, e2, hf⟩ := Al hf
  obtain ⟨xs, e3, hf⟩ := Al hf
  obtain ⟨ys, e4, hf⟩ := Al hf
  by_cases hc : fits (xs.length + ys.length) = true
  · rw [if_pos hc] at hf
    cases hf
    refine ha.pu O σ H ρ x _ ok er e1 fun v H1 s1 r1 => ?_
    refine hb.pu O σ H1 ρ y _ (ok.mono s1) (er.Ai s1) e2 fun u H2 s2 r2 => ?_
    have r1' := r1.Ai s2
    cases r1' with
    | lst h r' =>
      cases e3
      cases r2 with
      | lst h2 r2' =>
        cases e4
        refine ⟨_, _, _, _, rfl, rfl, Dj.seq h, Dj.seq h2, by rw [r'.length, r2'.length]; exact WY hc, fun p hp => ?_⟩
        have s02 := s1.trans s2
        exact q p _ _ (s02.trans (Ak.new hp)) (s02.free hp) Dg ((r'.append r2').mono (Sh hp))
      | _ => cases e4
    | _ => cases e3
  · rw [if_neg hc] at hf
    cases hf⟩
end
end L2
namespace L2
open PySem PySem.Spec PyProof.Rows
def Lq (K : Frag) (G : Hp) (J : It) (items : List D) : Prop := ∀ (Oc : List Addr) (H' : Hp), CP Oc H' → Ak G (Ai Oc H') →
  (∀ i, i < items.length → J.go i H') ∧ (∀ i x H'', i < items.length → J.yld i H' x H'' → ∃ d, items[i]? = some d ∧ Ak H' H'' ∧ Rep K (Ai Oc H'') x d) ∧ J.stop items.length H'
def Wi (K : Frag) (wi : TI) (f : BW) : Prop := ∀ (O : List Addr) (σ : St) (H : Hp) (ρ : Bc) (items : List D) (R : It → Hp → Prop), CP O H → Dl K (Ai O H) σ ρ → f ρ = some items →
  (∀ J H1, Ak H H1 → Lq K (Ai O H1) J items → R J H1) → wi σ H R
structure JI (X : Cx) (K : Frag) (tg e : Expr) (wi : TI) (f : BW) : Prop where
  pe : PI X tg e wi
  pu : Wi K wi f
def Dw (f : PF) : BW := fun ρ => (f ρ).bind La
def Ox (f : PF) : BW := fun ρ => (f ρ).bind qQ
def Fi (lo : Int) (n : Nat) : List D := (List.range n).map fun i => .int (lo + (i : Nat))
def Ek : List D → Option (List D)
  | [.int j] => if -(2 ^ 62) ≤ j ∧ j < 2 ^ 62 then some (Fi 0 j.toNat) else none
  | _ => none
def Jv (ds : List D) : List D := ds.zipIdx.map fun p => .tuple [.int (p.2 : Nat), p.1]
def Sy : List D → Option (List D)
  | [.list ds] => some (Jv ds)
  | _ => none
def MJ (xs ys : List D) : List D := List.zipWith (fun a b => .tuple [a, b]) xs ys
def Q8 : List D → Option (List D)
  | [.list xs, .list ys] => some (MJ xs ys)
  | _ => none
section
variable {X : Cx} {K : Frag} {tg : Expr}
theorem AI3 {G : Hp} {a : Addr} {xs : List V} {ds : List D} (h : Bg K G a xs) (r : BL K G xs ds) : Lq K G (eF K a) ds := by
  intro Oc H' ok s
  have hq : Bg K H' a xs := (s.trans Dj).seq h
  have hl := r.length
  refine ⟨fun i hi => ⟨xs, xs[i], hq, by simp [show i < xs.length by omega]⟩, fun i x H'' hi y => ?_, ⟨xs, hq, by omega⟩⟩
  obtain ⟨e, y⟩ := y
  subst e
  obtain ⟨d, e, rd⟩ := r.R3 (y xs hq)
  exact ⟨d, e, Ak.refl _, rd.mono s⟩
theorem AFt {G : Hp} {a : Addr} {xs : List V} {ds : List D} (h : Dt K G a xs) (r : BL K G xs ds) : Lq K G (bO K a) ds := by
  intro Oc H' ok s
  have hq : Dt K H' a xs := (s.trans Dj).K3 h
  have hl := r.length
  refine ⟨fun i hi => ⟨xs, xs[i], hq, by simp [show i < xs.length by omega]⟩, fun i x H'' hi y => ?_, ⟨xs, hq, by omega⟩⟩
  obtain ⟨e, y⟩ := y
  subst e
  obtain ⟨d, e, rd⟩ := r.R3 (y xs hq)
  exact ⟨d, e, Ak.refl _, rd.mono s⟩
theorem ZW (lo : Int) (n : Nat) : (Fi lo n).length = n := by simp [Fi]
theorem AFs {lo : Int} {n i : Nat} (h : i < n) : (Fi lo n)[i]? = some (.int (lo + (i : Nat))) := by simp [Fi, h]
theorem nM {G : Hp} {lo : Int} {n : Nat} : Lq K G (X3 lo n) (Fi lo n) := by
  intro Oc H' ok s
  rw [ZW]
  refine ⟨fun i hi => hi, fun i x H'' hi y => ?_, Nat.le_refl _⟩
  obtain ⟨e, y⟩ := y
  subst e y
  exact ⟨_, AFs hi, Ak.refl _, .int _⟩
theorem AN3 {ds : List D} {i : Nat} {d : D} (h : ds[i]? = some d) : (Jv ds)[i]? = some (.tuple [.int (i : Nat), d]) := by
  unfold Jv
  rw [List.getElem?_map, List.getElem?_zipIdx, h]
  simp
theorem ANA {G : Hp} {a : Addr} {xs : List V} {ds : List D} (h : Bg K G a xs) (r : BL K G xs ds) : Lq K G (bA K a) (Jv ds) := by
  intro Oc H' ok s
  have hq : Bg K H' a xs := (s.trans Dj).seq h
  have hl := r.length
  have hn : (Jv ds).length = ds.length := by simp [Jv]
  rw [hn]
  refine ⟨fun i hi => ⟨xs, xs[i], hq, by simp [show i < xs.length by omega]⟩, fun i x H'' hi y => ?_, ⟨xs, hq, by omega⟩⟩
  obtain ⟨p, z, hp, rfl, rfl, y⟩ := y
  obtain ⟨d, e, rd⟩ := r.R3 (y xs hq)
  have sn : Ak H' (upd H' p (.tup [.int i, z])) := Ak.new hp
  refine ⟨_, AN3 e, sn, .tup (Dt.of ?_) (.cons (.int _) (.cons ((rd.mono s).Ai sn) .nil))⟩
  rw [Cj (ok.fresh hp)]
  exact Dg
theorem AJP {G : Hp} {a b : Addr} {xs ys : List V} {ds es : List D} (h : Bg K G a xs) (r : BL K G xs ds) (h2 : Bg K G b ys) (r2 : BL K G ys es) : Lq K G (dZ K a b) (MJ ds es) := by
  intro Oc H' ok s
  have hq : Bg K H' a xs := (s.trans Dj).seq h
  have hq2 : Bg K H' b ys := (s.trans Dj).seq h2
  have hl := r.length
  have hl2 := r2.length
  have hn : (MJ ds es).length = min ds.length es.length := by simp [MJ]
  rw [hn]
  refine ⟨fun i hi => ⟨xs, ys, xs[i], ys[i], hq, hq2, by simp [show i < xs.length by omega], by simp [show i < ys.length by omega]⟩, fun i x H'' hi y => ?_, ⟨xs, ys, hq, hq2, by omega⟩⟩
  obtain ⟨p, u, z, hp, rfl, rfl, y1, y2⟩ := y
  obtain ⟨d, e, rd⟩ := r.R3 (y1 xs hq)
  obtain ⟨d2, e2, rd2⟩ := r2.R3 (y2 ys hq2)
  have sn : Ak H' (upd H' p (.tup [u, z])) := Ak.new hp
  refine ⟨.tuple [d, d2], ?_, sn, .tup (Dt.of ?_) (.cons ((rd.mono s).Ai sn) (.cons ((rd2.mono s).Ai sn) .nil))⟩
  · unfold MJ
    rw [List.getElem?_zipWith, e, e2]
  · rw [Cj (ok.fresh hp)]
    exact Dg
theorem Hq {l : Expr} {tl : TE} {f : PF} (hK : X.K = K) (h : JE X K l tl f) : JI X K tg l (nH K tl) (Dw f) := ⟨by subst hK; exact ACY h.pe, by
  intro O σ H ρ items R ok er hf q
  obtain ⟨x, e1, hf⟩ := Al hf
  refine h.pu O σ H ρ x _ ok er e1 fun v H1 s1 r1 => ?_
  cases r1 with
  | lst hq r' => cases hf; exact ⟨_, rfl, ⟨_, Dj.seq hq⟩, q _ H1 s1 (AI3 hq r')⟩
  | _ => cases hf⟩
theorem ABc {l : Expr} {tl : TE} {f : PF} (hK : X.K = K) (h : JE X K l tl f) : JI X K tg l (xX K tl) (Ox f) := ⟨by subst hK; exact AMD h.pe, by
  intro O σ H ρ items R ok er hf q
  obtain ⟨x, e1, hf⟩ := Al hf
  refine h.pu O σ H ρ x _ ok er e1 fun v H1 s1 r1 => ?_
  cases r1 with
  | tup hq r' => cases hf; exact ⟨_, rfl, ⟨_, Dj.K3 hq⟩, q _ H1 s1 (AFt hq r')⟩
  | _ => cases hf⟩
theorem Qu {a : Expr} {ta : TA} {r : BW} {p pos : Pos} (hg : Gl X "range") (hm : X.mg "range" = none) (ha : JA X K [a] ta r) (hs : starEach [a] X.env = [(false, eval a X.env)] := by rfl) : JI X K tg (.Call (.Name "range" p) [a] [] pos) (fZ ta) (Bm Ek r) := ⟨wM hg hm ha.pe hs, by
  intro O σ H ρ items R ok er hf q
  obtain ⟨ds, e1, hf⟩ := Al hf
  refine ha.pu O σ H ρ ds _ ok er e1 fun vs H1 s1 r1 => ?_
  unfold Ek at hf
  split at hf
  · rename_i j
    obtain ⟨v, rfl, rv⟩ := rep1 r1
    cases rv
    by_cases hc : -(2 ^ 62) ≤ j ∧ j < 2 ^ 62
    · rw [if_pos hc] at hf
      cases hf
      exact ⟨j, rfl, hc.1, hc.2, q _ H1 s1 nM⟩
    · rw [if_neg hc] at hf
      cases hf
  · cases hf⟩
theorem vV {elts : List Expr} {k1 : Nat} {tpos : Pos} {a : Expr} {ta : TA} {r : BW} {p pos : Pos} (hK : X.K = K) (hg : Gl X "enumerate") (hm : X.mg "enumerate" = none) (ha : JA X K [a] ta r) (hs : starEach [a] X.env = [(false, eval a X.env)] := by rfl) :
    JI X K (.Tuple elts k1 tpos) (.Call (.Name "enumerate" p) [a] [] pos) (yN K ta) (Bm Sy r) := ⟨by subst hK; exact AFW hg hm ha.pe hs, by
  intro O σ H ρ items R ok er hf q
  obtain ⟨ds, e1, hf⟩ := Al hf
  refine ha.pu O σ H ρ ds _ ok er e1 fun vs H1 s1 r1 => ?_
  unfold Sy at hf
  split at hf
  · rename_i es
    obtain ⟨v, rfl, rv⟩ := rep1 r1
    cases hf
    cases rv with
    | lst hq r' => exact ⟨_, rfl, ⟨_, Dj.seq hq⟩, q _ H1 s1 (ANA hq r')⟩
  · cases hf⟩
theorem AIn {elts : List Expr} {k1 : Nat} {tpos : Pos} {a b : Expr} {ta : TA} {r : BW} {p pos : Pos} (hK : X.K = K) (hg : Gl X "zip") (hm : X.mg "zip" = none) (ha : JA X K [a, b] ta r) (hs : starEach [a, b] X.env = [(false, eval a X.env), (false, eval b X.env)] := by rfl) (hs2 : starEach [b] X.env = [(false, eval b X.env)] := by rfl) :
    JI X K (.Tuple elts k1 tpos) (.Call (.Name "zip" p) [a, b] [] pos) (uI K ta) (Bm Q8 r) := ⟨by subst hK; exact AEf hg hm ha.pe hs hs2, by
  intro O σ H ρ items R ok er hf q
  obtain ⟨ds, e1, hf⟩ := Al hf
  refine ha.pu O σ H ρ ds _ ok er e1 fun vs H1 s1 r1 => ?_
  unfold Q8 at hf
  split at hf
  · rename_i xs ys
    obtain ⟨v, u, rfl, rv, ru⟩ := rep2 r1
    cases hf
    cases rv with
    | lst hq r' =>
      cases ru with
      | lst hq2 r2' => exact ⟨_, _, rfl, ⟨_, Dj.seq hq⟩, ⟨_, Dj.seq hq2⟩, q _ H1 s1 (AJP hq r' hq2 r2')⟩
  · cases hf⟩
end
def fM (K : Frag) (g : TG) (bd : D → Bc → Option Bc) : Prop := ∀ (O : List Addr) (v : V) (d : D) (σ : St) (H : Hp) (ρ ρ' : Bc) (Q : St → Hp → Prop), CP O H → Rep K (Ai O H) v d → Dl K (Ai O H) σ ρ → σ.length = ρ.length → bd d ρ = some ρ' →
  (∀ σ', σ'.length = ρ'.length → Dl K (Ai O H) σ' ρ' → Q σ' H) → g v σ H Q
structure JG (X : Cx) (K : Frag) (tg : Expr) (g : TG) (bd : D → Bc → Option Bc) : Prop where
  pe : PG X tg g
  pu : fM K g bd
def Cg (i : Nat) : D → Bc → Option Bc := fun d ρ => some (ρ.set i (some d))
def Km (i j : Nat) : D → Bc → Option Bc
  | .tuple [a, b], ρ => some ((ρ.set i (some a)).set j (some b))
  | _, _ => none
theorem Dl.set {K : Frag} {H : Hp} {σ : St} {ρ : Bc} {v : V} {d : D} (e : Dl K H σ ρ) (hl : σ.length = ρ.length) (r : Rep K H v d) (i : Nat) : Dl K H (σ.set i (some v)) (ρ.set i (some d)) := fun j d' h => by
  by_cases hj : i = j
  · subst hj
    by_cases hi : i < ρ.length
    · rw [List.getElem?_set_self hi] at h
      cases h
      exact ⟨v, by rw [List.getElem?_set_self (by omega)], r⟩
    · rw [List.getElem?_eq_none (by simp; omega)] at h
      cases h
  · rw [List.getElem?_set_ne hj] at h
    obtain ⟨u, e1, r1⟩ := e j d' h
    exact ⟨u, by rw [List.getElem?_set_ne hj]; exact e1, r1⟩
section
variable {X : Cx} {K : Frag} {pos : Pos}
theorem G5 {i : Nat} {x : Str} (hN : X.N.Nodup) (hi : X.N[i]? = some x) (hx : Loc X.env.scope x) (hf : X.fn x = true ∨ X.env.scope.names.lookup x = some .local := by first | exact .inl rfl | exact .inr rfl | assumption) : JG X K (.Name x pos) (FN i) (Cg i) := ⟨Jm hN hi hx hf, by
  intro O v d σ H ρ ρ' Q ok r er hl hb q
  cases hb
  exact q _ (by simp [hl]) (er.set hl r i)⟩
theorem bL {i j : Nat} {x y : Str} {p1 p2 : Pos} {k : Nat} (hK : X.K = K) (hc : X.calm = true) (hN : X.N.Nodup) (hi : X.N[i]? = some x) (hx : Loc X.env.scope x) (hj : X.N[j]? = some y) (hy : Loc X.env.scope y) (hf : X.fn x = true ∨ X.env.scope.names.lookup x = some .local := by first | exact .inl rfl | exact .inr rfl | assumption) (hf2 : X.fn y = true ∨ X.env.scope.names.lookup y = some .local := by first | exact .inl rfl | exact .inr rfl | assumption) (h1 : (assignEach [.Name x p1, .Name y p2] X.env).map (·.2) = assign (.Name x p1) X.env :: (assignEach [.Name y p2] X.env).map (·.2) := by rfl) (h2 : (assignEach [.Name y p2] X.env).map (·.2) = assign (.Name y p2) X.env :: (assignEach [] X.env).map (·.2) := by rfl) (hn : (assignEach [.Name x p1, .Name y p2] X.env).length = 2 := by rfl) (hst : (assignEach [.Name x p1, .Name y p2] X.env).findIdx? (·.1) = none := by rfl) :
    JG X K (.Tuple [.Name x p1, .Name y p2] k pos) (Vd K 2 (Jg (FN i) (Jg (FN j) TF))) (Km i j) := ⟨by
  subst hK
  exact cG hc (QV (Jm hN hi hx hf) (QV (Jm hN hj hy hf2) aW h2) h1) hn hst, by
  intro O v d σ H ρ ρ' Q ok r er hl hb q
  unfold Km at hb
  split at hb
  · rename_i a b _
    cases hb
    cases r with
    | tup hq r' =>
      obtain ⟨v1, v2, rfl, r1, r2⟩ := rep2 r'
      refine ⟨_, _, rfl, Dj.K3 hq, rfl, _, _, rfl, _, _, rfl, rfl, ?_⟩
      exact q _ (by simp [hl]) ((er.set hl r1 i).set (by simp [hl]) r2 j)
  · cases hb⟩
end
def Hm (bd : D → Bc → Option Bc) (pt : PB) (fe : PF) (ρ0 : Bc) : List D → Option (List D)
  | [] => some []
  | d :: ds => (bd d ρ0).bind fun ρ1 => (pt ρ1).bind fun b => if b = true then (fe ρ1).bind fun e => (Hm bd pt fe ρ0 ds).bind fun r => some (e :: r) else Hm bd pt fe ρ0 ds
def compEnv (n : Nat) (is : List Nat) (ρ : Bc) : Bc := List.replicate n none ++ is.map fun i => (ρ[i]?).join
def Ca (fi : BW) (bd : D → Bc → Option Bc) (pt : PB) (fe : PF) (n : Nat) (is : List Nat) : BW := fun ρ => (fi ρ).bind fun items => if fits items.length = true then Hm bd pt fe (compEnv n is ρ) items else none
theorem pC {K : Frag} {H : Hp} {σ : St} {ρ : Bc} {n : Nat} {fv : List (Nat × Str)} (e : Dl K H σ ρ) : Dl K H (Gg n fv σ) (compEnv n (fv.map (·.1)) ρ) := fun i d h => by
  unfold compEnv at h
  by_cases hi : i < n
  · rw [List.getElem?_append_left (by simpa using hi), List.getElem?_replicate, if_pos hi] at h
    cases h
  · have hn : n ≤ i := by omega
    rw [List.getElem?_append_right (by simpa using hn), List.length_replicate, List.getElem?_map, List.getElem?_map] at h
    cases e1 : fv[i - n]? with
    | none => rw [e1] at h; cases h
    | some p =>
      rw [e1] at h
      have h' : (ρ[p.1]?).join = some d := Option.some.inj h
      have h2 : ρ[p.1]? = some (some d) := by
        cases e2 : ρ[p.1]? with
        | none => rw [e2] at h'; cases h'
        | some o => rw [e2] at h'; rw [show o = some d from h']
      obtain ⟨v, e3, r⟩ := e p.1 d h2
      refine ⟨v, ?_, r⟩
      unfold Gg
      rw [List.getElem?_append_right (by simpa using hn), List.length_replicate, List.getElem?_map, e1]
      show some (σ[p.1]?).join = _
      rw [e3]
      rfl
section
variable {K : Frag} {wi : TI} {g : TG} {tc : TT} {te : TE} {fi : BW} {bd : D → Bc → Option Bc} {pt : PB} {fe : PF}
theorem pR (hi : Wi K wi fi) (hg : fM K g bd) (ht : M8 K tc pt) (he : Gj K te fe) (n : Nat) (fv : List (Nat × Str)) : LQ K (Mu wi g tc te n fv) (Ca fi bd pt fe n (fv.map (·.1))) := by
  intro O σ H ρ total Q ok er hf q
  obtain ⟨items, e1, hf⟩ := Al hf
  by_cases hc : fits items.length = true
  case neg => rw [if_neg hc] at hf; cases hf
  rw [if_pos hc] at hf
  refine hi O σ H ρ items _ ok er e1 fun J H1 s1 it => fun D0 hD0 => ?_
  have hlt : items.length < sizeLine := of_decide_eq_true hc
  have okD : ∀ {H'}, H' D0 ≠ none → Ak H1 H' → CP (D0 :: O) H' := fun {H'} hn s' a ha => by
    rcases List.mem_cons.mp ha with rfl | ha
    · cases e : H' a with
      | none => exact absurd e hn
      | some o => exact ⟨o, rfl⟩
    · exact ((ok.mono s1).mono s') a ha
  have sD : ∀ {H'}, Ak H1 H' → Ak (Ai O H1) (Ai (D0 :: O) H') := fun {H'} s' b o e => by
    obtain ⟨n1, e⟩ := Gr e
    have nb : b ≠ D0 := De e hD0
    rw [Cj (by simp [nb, n1])]
    exact s' b o e
  have er1 : Dl K (Ai O H1) σ ρ := er.Ai s1
  have aX : (Gg n fv σ).length = (compEnv n (fv.map (·.1)) ρ).length := by simp [Gg, compEnv]
  refine oN (n := items.length) (fun i ys H' => H' D0 = some (.lst ys) ∧ Ak H1 H' ∧ ys.length ≤ i ∧ ∃ es rest, BL K (Ai (D0 :: O) H') ys es ∧ Hm bd pt fe (compEnv n (fv.map (·.1)) ρ) (items.drop i) = some rest ∧ es ++ rest = total)
    ⟨Dg, Ak.new hD0, Nat.zero_le _, [], total, .nil, by simpa using hf, rfl⟩ (fun i ys H' p => p.1) (fun i ys H' hi' p => ((it (D0 :: O) H' (okD (by rw [p.1]; simp) p.2.1) (sD p.2.1)).1 i hi')) ?_ ?_
  · rintro i ys H' x H'' hi' ⟨hD', s', hy, es, rest, rr, hcp, htot⟩ yl
    obtain ⟨d, ed, s'', rd⟩ := (it (D0 :: O) H' (okD (by rw [hD']; simp) s') (sD s')).2.1 i x H'' hi' yl
    have hdrop : items.drop i = d :: items.drop (i + 1) := by
      rw [List.drop_eq_getElem_cons hi']
      congr 1
      exact Option.some.inj ((List.getElem?_eq_getElem hi').symm.trans ed)
    rw [hdrop] at hcp
    obtain ⟨ρ1, eb, hcp⟩ := Al hcp
    obtain ⟨b, et, hcp⟩ := Al hcp
    have s2 := s'.trans s''
    have WN := s'' _ _ hD'
    have ok2 : CP (D0 :: O) H'' := okD (by rw [WN]; simp) s2
    refine hg (D0 :: O) x d _ H'' _ ρ1 _ ok2 rd ((pC er1).mono (sD s2)) aX eb fun σ2 hl2 er2 => ?_
    refine ht (D0 :: O) σ2 H'' ρ1 b _ ok2 er2 et fun H3 s3 => ?_
    have s03 := s2.trans s3
    have hD3 := s3 _ _ WN
    cases b with
    | false =>
      rw [if_neg Bool.false_ne_true] at hcp ⊢
      exact ⟨hD3, s03, by omega, es, rest, rr.Ai (s''.trans s3), hcp, htot⟩
    | true =>
      rw [if_pos rfl] at hcp ⊢
      obtain ⟨e, ee, hcp⟩ := Al hcp
      obtain ⟨r, er', hcp⟩ := Al hcp
      cases hcp
      refine he (D0 :: O) σ2 H3 ρ1 e _ (ok2.mono s3) (er2.Ai s3) ee fun v H4 s4 rv => ?_
      have hD4 := s4 _ _ hD3
      have s04 := s03.trans s4
      refine ⟨hD4, by omega, Dg, ?_, by rw [List.length_append]; show ys.length + 1 ≤ i + 1; omega, es ++ [e], r, ?_, er', by rw [List.append_assoc]; exact htot⟩
      · intro b' o' eb'
        rw [Ba (De eb' hD0)]
        exact s04 b' o' eb'
      · rw [Ih (Bp)]
        exact (rr.Ai ((s''.trans s3).trans s4)).append (.cons rv .nil)
  · rintro ys H' ⟨hD', s', hy, es, rest, rr, hcp, htot⟩
    refine ⟨(it (D0 :: O) H' (okD (by rw [hD']; simp) s') (sD s')).2.2, ?_⟩
    rw [List.drop_length] at hcp
    cases hcp
    rw [List.append_nil] at htot
    subst htot
    exact q D0 ys H' (s1.trans s') (s1.free hD0) hD' rr
end
section
variable {X : Cx} {K : Frag} {tg elt iter : Expr} {ifs : List Expr} {scope : Scope} {wi : TI} {g : TG} {tc : TT} {te : TE} {fi : BW} {bd : D → Bc → Option Bc} {pt : PB} {fe : PF}
structure VL (X : Cx) (K : Frag) (ifs : List Expr) (t : TT) (f : PB) : Prop where
  pe : Rz X ifs t
  pu : M8 K t f
theorem Ie : VL X K [] pA Cq := ⟨AHb, by
  intro O σ H ρ b Q ok er h q
  cases h
  exact q H (Ak.refl H)⟩
theorem Rh {c : Expr} {t : TT} {f : PB} (h : JT X K c t f) : VL X K [c] t f := ⟨ABo h.pe, h.pu⟩
theorem J6 {pos : Pos} (own : List Str) (fv : List (Nat × Str)) (hc : X.calm = true) (hi : JI X K tg iter wi fi) (fo : Je X scope fv) (gk : Mf own.length g) (bg : ∀ fp pins s H, JG (Dn X (own ++ fv.map (·.2)) scope (En X.env scope.names []) fp pins s H) K tg g bd) (bt : ∀ fp pins s H, VL (Dn X (own ++ fv.map (·.2)) scope (En X.env scope.names []) fp pins s H) K ifs tc pt) (be : ∀ fp pins s H, JE (Dn X (own ++ fv.map (·.2)) scope (En X.env scope.names []) fp pins s H) K elt te fe) (kind : scope.kind = .function) (cell : ∀ y ∈ scope.names, y.2 ≠ .cell) (names : ∀ x ∈ scope.names, x.2 = .local → scope.names.lookup x.1 = some .local) (free : freeOk X scope = true) (hs : ∀ x, foldedSetIterable iter X.env x = pure x := by intro _; rfl) :
    JL X K (.ListComp elt [⟨tg, iter, ifs, 0⟩] scope pos) (Mu wi g tc te own.length fv) (Ca fi bd pt fe own.length (fv.map (·.1))) :=
  ⟨ACe own fv hc hi.pe fo gk (fun fp pins s H => (bg fp pins s H).pe) (fun fp pins s H => (bt fp pins s H).pe) (fun fp pins s H => (be fp pins s H).pe) kind cell names free hs,
   pR hi.pu (bg [] [] X.s₀ X.H₀).pu (bt [] [] X.s₀ X.H₀).pu (be [] [] X.s₀ X.H₀).pu _ _⟩
end
end L2
namespace L2
open PySem PySem.Spec PyProof.Rows
inductive Cn where
  | obj (ks : List Str) (ds : List D)
  | lst (ds : List D)
  | dct (kvs : List (Int × D))
def Cn.view : Cn → Option D
  | .obj ks ds => some (.dict (Dq ks ds))
  | .lst ds => some (.list ds)
  | .dct _ => none
inductive Sl where
  | no
  | sh (d : D)
  | ow (ds : List D)
  | on (dss : List (List D))
  | tr (a : Addr) (c : Cn)
abbrev Am := List Sl
def Sl.view : Sl → Option D
  | .no => none
  | .sh d => some d
  | .ow ds => some (.list ds)
  | .on dss => some (.list (dss.map .list))
  | .tr _ c => c.view
def Sl.mask : Sl → Option D
  | .sh d => some d
  | _ => none
def full (ρ : Am) : Bc := ρ.map Sl.view
def masked (ρ : Am) : Bc := ρ.map Sl.mask
theorem Uw {H : Hp} {a : Addr} {ps qs : List Addr} (e : H a = some (.lst (ps.map V.ref))) (e' : H a = some (.lst (qs.map V.ref))) : ps = qs := by
  rw [e] at e'
  have : ps.map V.ref = qs.map V.ref := by injection e' with e'; injection e'
  exact (List.map_inj_right fun x y z => by injection z).mp this
inductive Inner (K : Frag) (G H : Hp) : List Addr → List (List D) → Prop
  | nil : Inner K G H [] []
  | cons {p : Addr} {xs : List V} {ds : List D} {ps : List Addr} {dss : List (List D)} : H p = some (.lst xs) → BL K G xs ds → Inner K G H ps dss → Inner K G H (p :: ps) (ds :: dss)
section
variable {K : Frag} {G G' H H' : Hp}
theorem Inner.len {ps : List Addr} {dss : List (List D)} (i : Inner K G H ps dss) : ps.length = dss.length := by
  induction i with
  | nil => rfl
  | cons _ _ _ ih => simp [ih]
theorem Inner.mem {ps : List Addr} {dss : List (List D)} (i : Inner K G H ps dss) : ∀ a ∈ ps, ∃ xs, H a = some (.lst xs) := by
  induction i with
  | nil => intro a h; cases h
  | cons e _ _ ih =>
    intro b h
    rcases List.mem_cons.mp h with rfl | h
    · exact ⟨_, e⟩
    · exact ih b h
theorem Inner.mono {ps : List Addr} {dss : List (List D)} (i : Inner K G H ps dss) (g : Ak G G') (h : ∀ a ∈ ps, ∀ o, H a = some o → H' a = some o) : Inner K G' H' ps dss := by
  induction i with
  | nil => exact .nil
  | cons e r _ ih => exact .cons (h _ Bp _ e) (r.mono g) (ih fun a ha => h a (BK ha))
theorem Inner.full {ps : List Addr} {dss : List (List D)} (i : Inner K G H ps dss) (g : Ak G G') (h : ∀ a ∈ ps, ∀ o, H a = some o → G' a = some o) : BL K G' (ps.map V.ref) (dss.map .list) := by
  induction i with
  | nil => exact .nil
  | cons e r _ ih => exact .cons (.lst (Bg.of (h _ Bp _ e)) (r.mono g)) (ih fun a ha => h a (BK ha))
theorem Inner.get : ∀ {ps : List Addr} {dss : List (List D)} {j : Nat} {ds : List D}, Inner K G H ps dss → dss[j]? = some ds → ∃ p xs, ps[j]? = some p ∧ H p = some (.lst xs) ∧ BL K G xs ds
  | _, _, _, _, .nil, h => by simp at h
  | _, _, 0, _, .cons e r _, h => by simp at h; subst h; exact ⟨_, _, rfl, e, r⟩
  | _, _, j + 1, _, .cons _ _ t, h => by
    obtain ⟨p, xs, h1, h2, h3⟩ := Inner.get (j := j) t (by simpa using h)
    exact ⟨p, xs, by simpa using h1, h2, h3⟩
theorem Inner.write {p : Addr} {ys : List V} {es : List D} (r : BL K G ys es) : ∀ {ps : List Addr} {dss : List (List D)} {j : Nat}, ps.Nodup → Inner K G H ps dss → ps[j]? = some p → Inner K G (upd H p (.lst ys)) ps (dss.set j es)
  | _, _, _, _, .nil, h => by simp at h
  | _, _, 0, nd, .cons e _ t, h => by
    simp at h
    subst h
    have nd' := List.nodup_cons.mp nd
    exact .cons Dg r (t.mono (Ak.refl _) fun b hb o e => by rw [Ba fun z => nd'.1 (by rw [← z]; exact hb)]; exact e)
  | _, _, j + 1, nd, .cons e q t, h => by
    have nd' := List.nodup_cons.mp nd
    rw [List.getElem?_cons_succ] at h
    have h' := h
    have hm := List.mem_of_getElem? h'
    exact .cons (by rw [Ba fun z => nd'.1 (by rw [z]; exact hm)]; exact e) q (Inner.write (j := j) r nd'.2 t h')
end
def VH : HO → Bool
  | .lst _ => true
  | .ins _ _ _ => true
  | .dK _ => true
  | _ => false
def Gf (K : Frag) (G H : Hp) (a : Addr) : Cn → Prop
  | .obj ks ds => ∃ C dx fs, Lk K C ∧ H a = some (.ins C dx fs) ∧ fs.map (·.1) = ks ∧ BL K G (fs.map (·.2)) ds
  | .lst ds => ∃ xs, H a = some (.lst xs) ∧ BL K G xs ds
  | .dct kvs => ∃ ps : List (Int × V), H a = some (.dK (ps.map fun p => (Sum.inl p.1, p.2))) ∧ ps.map (·.1) = kvs.map (·.1) ∧ BL K G (ps.map (·.2)) (kvs.map (·.2))
theorem Gf.own {K : Frag} {G H : Hp} {a : Addr} {c : Cn} (h : Gf K G H a c) : ∃ o, H a = some o ∧ VH o = true := by
  cases c with
  | obj ks ds => obtain ⟨C, dx, fs, _, e, _⟩ := h; exact ⟨_, e, rfl⟩
  | lst ds => obtain ⟨xs, e, _⟩ := h; exact ⟨_, e, rfl⟩
  | dct kvs => obtain ⟨ps, e, _⟩ := h; exact ⟨_, e, rfl⟩
theorem Gf.mono {K : Frag} {G G' H H' : Hp} {a : Addr} {c : Cn} (h : Gf K G H a c) (g : Ak G G') (e : ∀ o, H a = some o → H' a = some o) : Gf K G' H' a c := by
  cases c with
  | obj ks ds => obtain ⟨C, dx, fs, k, q, z, r⟩ := h; exact ⟨C, dx, fs, k, e _ q, z, r.mono g⟩
  | lst ds => obtain ⟨xs, q, r⟩ := h; exact ⟨xs, e _ q, r.mono g⟩
  | dct kvs => obtain ⟨ps, q, z, r⟩ := h; exact ⟨ps, e _ q, z, r.mono g⟩
theorem Gf.rep {K : Frag} {G G' H : Hp} {a : Addr} {c : Cn} {d : D} (h : Gf K G H a c) (g : Ak G G') (e : ∀ o, H a = some o → G' a = some o) (v : c.view = some d) : Rep K G' (.ref a) d := by
  cases c with
  | obj ks ds => obtain ⟨C, dx, fs, k, q, rfl, r⟩ := h; cases v; exact .obj k (e _ q) (r.mono g) rfl
  | lst ds => obtain ⟨xs, q, r⟩ := h; cases v; exact .lst (Bg.of (e _ q)) (r.mono g)
  | dct kvs => cases v
inductive Slots (K : Frag) (G H : Hp) : St → Am → List Addr → Prop
  | nil : Slots K G H [] [] []
  | no {v : Option V} {σ : St} {ρ : Am} {O : List Addr} : Slots K G H σ ρ O → Slots K G H (v :: σ) (.no :: ρ) O
  | sh {v : V} {d : D} {σ : St} {ρ : Am} {O : List Addr} : Rep K G v d → Slots K G H σ ρ O → Slots K G H (some v :: σ) (.sh d :: ρ) O
  | ow {a : Addr} {xs : List V} {ds : List D} {σ : St} {ρ : Am} {O : List Addr} : H a = some (.lst xs) → BL K G xs ds → Slots K G H σ ρ O → Slots K G H (some (.ref a) :: σ) (.ow ds :: ρ) (a :: O)
  | on {a : Addr} {ps : List Addr} {dss : List (List D)} {σ : St} {ρ : Am} {O : List Addr} : H a = some (.lst (ps.map V.ref)) → Inner K G H ps dss → Slots K G H σ ρ O → Slots K G H (some (.ref a) :: σ) (.on dss :: ρ) (a :: (ps ++ O))
  | tr {a : Addr} {c : Cn} {σ : St} {ρ : Am} {O : List Addr} : Gf K G H a c → Slots K G H σ ρ O → Slots K G H (some (.ref a) :: σ) (.tr a c :: ρ) (a :: O)
section
variable {K : Frag} {G G' H H' : Hp} {σ : St} {ρ : Am} {O : List Addr}
theorem Slots.len (s : Slots K G H σ ρ O) : σ.length = ρ.length := by
  induction s with
  | nil => rfl
  | no _ ih => simp [ih]
  | sh _ _ ih => simp [ih]
  | ow _ _ _ ih => simp [ih]
  | on _ _ _ ih => simp [ih]
  | tr _ _ ih => simp [ih]
theorem Slots.mem (s : Slots K G H σ ρ O) : ∀ a ∈ O, ∃ o, H a = some o ∧ VH o = true := by
  induction s with
  | nil => intro a h; cases h
  | no _ ih => exact ih
  | sh _ _ ih => exact ih
  | ow e _ _ ih =>
    intro b h
    rcases List.mem_cons.mp h with rfl | h
    · exact ⟨_, e, rfl⟩
    · exact ih b h
  | tr e _ ih =>
    intro b h
    rcases List.mem_cons.mp h with rfl | h
    · exact e.own
    · exact ih b h
  | on e i _ ih =>
    intro b h
    rcases List.mem_cons.mp h with rfl | h
    · exact ⟨_, e, rfl⟩
    · rcases List.mem_append.mp h with h | h
      · obtain ⟨xs, e⟩ := i.mem b h
        exact ⟨_, e, rfl⟩
      · exact ih b h
theorem Slots.mono (s : Slots K G H σ ρ O) (g : Ak G G') (h : ∀ a ∈ O, ∀ o, H a = some o → H' a = some o) : Slots K G' H' σ ρ O := by
  induction s with
  | nil => exact .nil
  | no _ ih => exact .no (ih h)
  | sh r _ ih => exact .sh (r.mono g) (ih h)
  | ow e r _ ih => exact .ow (h _ Bp _ e) (r.mono g) (ih fun a ha => h a (BK ha))
  | tr e _ ih => exact .tr (e.mono g (h _ Bp)) (ih fun a ha => h a (BK ha))
  | on e i _ ih => exact .on (h _ Bp _ e) (i.mono g fun a ha => h a (BK (Cy ha))) (ih fun a ha => h a (BK (Bj ha)))
theorem Slots.mask (s : Slots K G H σ ρ O) : Dl K G σ (masked ρ) := by
  induction s with
  | nil => intro i d h; cases h
  | no _ ih =>
    intro i d h
    cases i with
    | zero => cases h
    | succ i => exact ih i d h
  | sh r _ ih =>
    intro i d h
    cases i with
    | zero => cases h; exact ⟨_, rfl, r⟩
    | succ i => exact ih i d h
  | ow _ _ _ ih =>
    intro i d h
    cases i with
    | zero => cases h
    | succ i => exact ih i d h
  | on _ _ _ ih =>
    intro i d h
    cases i with
    | zero => cases h
    | succ i => exact ih i d h
  | tr _ _ ih =>
    intro i d h
    cases i with
    | zero => cases h
    | succ i => exact ih i d h
theorem Slots.full {G' : Hp} (s : Slots K G H σ ρ O) (g : Ak G G') (h : ∀ a ∈ O, ∀ o, H a = some o → G' a = some o) : Dl K G' σ (full ρ) := by
  induction s with
  | nil => intro i d h; cases h
  | no _ ih =>
    intro i d h'
    cases i with
    | zero => cases h'
    | succ i => exact ih h i d h'
  | sh r _ ih =>
    intro i d h'
    cases i with
    | zero => cases h'; exact ⟨_, rfl, r.mono g⟩
    | succ i => exact ih h i d h'
  | ow e r _ ih =>
    intro i d h'
    cases i with
    | zero => cases h'; exact ⟨_, rfl, .lst (Bg.of (h _ Bp _ e)) (r.mono g)⟩
    | succ i => exact ih (fun a ha => h a (BK ha)) i d h'
  | tr e _ ih =>
    intro i d h'
    cases i with
    | zero => exact ⟨_, rfl, e.rep g (h _ Bp) (Option.some.inj h')⟩
    | succ i => exact ih (fun a ha => h a (BK ha)) i d h'
  | on e inn _ ih =>
    intro i d h'
    cases i with
    | zero => cases h'; exact ⟨_, rfl, .lst (Bg.of (h _ Bp _ e)) (inn.full g fun a ha => h a (BK (Cy ha)))⟩
    | succ i => exact ih (fun a ha => h a (BK (Bj ha))) i d h'
theorem Slots.O7 {v : V} {d : D} (r : Rep K G v d) : ∀ {σ : St} {ρ : Am} {O : List Addr} (i : Nat), Slots K G H σ ρ O → ∃ O', O'.Sublist O ∧ Slots K G H (σ.set i (some v)) (ρ.set i (.sh d)) O'
  | _, _, _, _, .nil => ⟨_, .refl _, .nil⟩
  | _, _, _, 0, .no t => ⟨_, .refl _, .sh r t⟩
  | _, _, _, 0, .sh _ t => ⟨_, .refl _, .sh r t⟩
  | _, _, _, 0, .ow _ _ t => ⟨_, .cons _ (.refl _), .sh r t⟩
  | _, _, _, 0, .on _ _ t => ⟨_, .cons _ (List.sublist_append_right _ _), .sh r t⟩
  | _, _, _, 0, .tr _ t => ⟨_, .cons _ (.refl _), .sh r t⟩
  | _, _, _, i + 1, .no t => by obtain ⟨O', h, s⟩ := Slots.O7 r i t; exact ⟨O', h, .no s⟩
  | _, _, _, i + 1, .sh q t => by obtain ⟨O', h, s⟩ := Slots.O7 r i t; exact ⟨O', h, .sh q s⟩
  | _, _, _, i + 1, .ow e q t => by obtain ⟨O', h, s⟩ := Slots.O7 r i t; exact ⟨_, .cons₂ _ h, .ow e q s⟩
  | _, _, _, i + 1, .on e q t => by obtain ⟨O', h, s⟩ := Slots.O7 r i t; exact ⟨_, .cons₂ _ (List.Sublist.append_left h _), .on e q s⟩
  | _, _, _, i + 1, .tr e t => by obtain ⟨O', h, s⟩ := Slots.O7 r i t; exact ⟨_, .cons₂ _ h, .tr e s⟩
theorem Slots.RJ {a : Addr} {xs : List V} {ds : List D} (e : H a = some (.lst xs)) (r : BL K G xs ds) : ∀ {σ : St} {ρ : Am} {O : List Addr} (i : Nat), a ∉ O → O.Nodup → Slots K G H σ ρ O →
    ∃ O', (∀ b ∈ O', b = a ∨ b ∈ O) ∧ O'.Nodup ∧ Slots K G H (σ.set i (some (.ref a))) (ρ.set i (.ow ds)) O'
  | _, _, _, _, _, nd, .nil => ⟨[], (fun b h => by cases h), nd, .nil⟩
  | _, _, _, 0, na, nd, .no t => ⟨_, fun b h => List.mem_cons.mp h, List.nodup_cons.mpr ⟨na, nd⟩, .ow e r t⟩
  | _, _, _, 0, na, nd, .sh _ t => ⟨_, fun b h => List.mem_cons.mp h, List.nodup_cons.mpr ⟨na, nd⟩, .ow e r t⟩
  | _, _, _, 0, na, nd, .ow _ _ t => ⟨_, fun b h => (List.mem_cons.mp h).imp id (fun z => BK z), List.nodup_cons.mpr ⟨fun z => na (BK z), (List.nodup_cons.mp nd).2⟩, .ow e r t⟩
  | _, _, _, 0, na, nd, .on _ _ t => ⟨_, fun b h => (List.mem_cons.mp h).imp id (fun z => BK (Bj z)), List.nodup_cons.mpr ⟨fun z => na (BK (Bj z)), (List.nodup_append.mp (List.nodup_cons.mp nd).2).2.1⟩, .ow e r t⟩
  | _, _, _, 0, na, nd, .tr _ t => ⟨_, fun b h => (List.mem_cons.mp h).imp id (fun z => BK z), List.nodup_cons.mpr ⟨fun z => na (BK z), (List.nodup_cons.mp nd).2⟩, .ow e r t⟩
  | _, _, _, i + 1, na, nd, .tr q t => by
    have nd' := List.nodup_cons.mp nd
    obtain ⟨O', h, n, s⟩ := Slots.RJ e r i (fun z => na (BK z)) nd'.2 t
    refine ⟨_, fun b hb => ?_, List.nodup_cons.mpr ⟨fun z => ?_, n⟩, .tr q s⟩
    · rcases List.mem_cons.mp hb with rfl | hb
      · exact .inr Bp
      · exact (h b hb).imp id (fun z => BK z)
    · rcases h _ z with z | z
      · exact na (by rw [← z]; exact Bp)
      · exact nd'.1 z
  | _, _, _, i + 1, na, nd, .no t => by obtain ⟨O', h, n, s⟩ := Slots.RJ e r i na nd t; exact ⟨O', h, n, .no s⟩
  | _, _, _, i + 1, na, nd, .sh q t => by obtain ⟨O', h, n, s⟩ := Slots.RJ e r i na nd t; exact ⟨O', h, n, .sh q s⟩
  | _, _, _, i + 1, na, nd, .ow e' q t => by
    have nd' := List.nodup_cons.mp nd
    obtain ⟨O', h, n, s⟩ := Slots.RJ e r i (fun z => na (BK z)) nd'.2 t
    refine ⟨_, fun b hb => ?_, List.nodup_cons.mpr ⟨fun z => ?_, n⟩, .ow e' q s⟩
    · rcases List.mem_cons.mp hb with rfl | hb
      · exact .inr Bp
      · exact (h b hb).imp id (fun z => BK z)
    · rcases h _ z with z | z
      · exact na (by rw [← z]; exact Bp)
      · exact nd'.1 z
  | _, _, _, i + 1, na, nd, .on e' q t => by
    have nd' := List.nodup_cons.mp nd
    have nd2 := List.nodup_append.mp nd'.2
    obtain ⟨O', h, n, s⟩ := Slots.RJ e r i (fun z => na (BK (Bj z))) nd2.2.1 t
    refine ⟨_, fun b hb => ?_, List.nodup_cons.mpr ⟨fun z => ?_, List.nodup_append.mpr ⟨nd2.1, n, fun x hx y hy hxy => ?_⟩⟩, .on e' q s⟩
    · rcases List.mem_cons.mp hb with rfl | hb
      · exact .inr Bp
      · rcases List.mem_append.mp hb with hb | hb
        · exact .inr (BK (Cy hb))
        · exact (h b hb).imp id (fun z => BK (Bj z))
    · rcases List.mem_append.mp z with z | z
      · exact nd'.1 (Cy z)
      · rcases h _ z with z | z
        · exact na (by rw [← z]; exact Bp)
        · exact nd'.1 (Bj z)
    · rcases h y hy with z | z
      · exact na (by rw [← z, ← hxy]; exact BK (Cy hx))
      · exact nd2.2.2 x hx y z hxy
theorem Slots.Qq {a : Addr} {ps : List Addr} {dss : List (List D)} (e : H a = some (.lst (ps.map V.ref))) (r : Inner K G H ps dss) (hap : (a :: ps).Nodup) : ∀ {σ : St} {ρ : Am} {O : List Addr} (i : Nat), (∀ b ∈ a :: ps, b ∉ O) → O.Nodup → Slots K G H σ ρ O →
    ∃ O', (∀ b ∈ O', b ∈ a :: ps ∨ b ∈ O) ∧ O'.Nodup ∧ Slots K G H (σ.set i (some (.ref a))) (ρ.set i (.on dss)) O'
  | _, _, _, _, _, nd, .nil => ⟨[], (fun b h => by cases h), nd, .nil⟩
  | _, _, O, 0, na, nd, .no t => ⟨_, fun b h => List.mem_append.mp (show b ∈ (a :: ps) ++ O from h), (List.nodup_append.mpr ⟨hap, nd, fun x hx y hy z => na x hx (by rw [z]; exact hy)⟩ : ((a :: ps) ++ O).Nodup), .on e r t⟩
  | _, _, O, 0, na, nd, .sh _ t => ⟨_, fun b h => List.mem_append.mp (show b ∈ (a :: ps) ++ O from h), (List.nodup_append.mpr ⟨hap, nd, fun x hx y hy z => na x hx (by rw [z]; exact hy)⟩ : ((a :: ps) ++ O).Nodup), .on e r t⟩
  | _, _, _, 0, na, nd, .ow _ _ t => ⟨_, fun b h => (List.mem_append.mp (show b ∈ (a :: ps) ++ _ from h)).imp id (fun z => BK z), (List.nodup_append.mpr ⟨hap, (List.nodup_cons.mp nd).2, fun x hx y hy z => na x hx (by rw [z]; exact BK hy)⟩ : ((a :: ps) ++ _).Nodup), .on e r t⟩
  | _, _, _, 0, na, nd, .on _ _ t => ⟨_, fun b h => (List.mem_append.mp (show b ∈ (a :: ps) ++ _ from h)).imp id (fun z => BK (Bj z)), (List.nodup_append.mpr ⟨hap, (List.nodup_append.mp (List.nodup_cons.mp nd).2).2.1, fun x hx y hy z => na x hx (by rw [z]; exact BK (Bj hy))⟩ : ((a :: ps) ++ _).Nodup), .on e r t⟩
  | _, _, _, 0, na, nd, .tr _ t => ⟨_, fun b h => (List.mem_append.mp (show b ∈ (a :: ps) ++ _ from h)).imp id (fun z => BK z), (List.nodup_append.mpr ⟨hap, (List.nodup_cons.mp nd).2, fun x hx y hy z => na x hx (by rw [z]; exact BK hy)⟩ : ((a :: ps) ++ _).Nodup), .on e r t⟩
  | _, _, _, i + 1, na, nd, .tr q t => by
    have nd' := List.nodup_cons.mp nd
    obtain ⟨O', h, n, s⟩ := Slots.Qq e r hap i (fun b hb z => na b hb (BK z)) nd'.2 t
    refine ⟨_, fun b hb => ?_, List.nodup_cons.mpr ⟨fun z => ?_, n⟩, .tr q s⟩
    · rcases List.mem_cons.mp hb with rfl | hb
      · exact .inr Bp
      · exact (h b hb).imp id (fun z => BK z)
    · rcases h _ z with z | z
      · exact na _ z Bp
      · exact nd'.1 z
  | _, _, _, i + 1, na, nd, .no t => by obtain ⟨O', h, n, s⟩ := Slots.Qq e r hap i na nd t; exact ⟨O', h, n, .no s⟩
  | _, _, _, i + 1, na, nd, .sh q t => by obtain ⟨O', h, n, s⟩ := Slots.Qq e r hap i na nd t; exact ⟨O', h, n, .sh q s⟩
  | _, _, _, i + 1, na, nd, .ow e' q t => by
    have nd' := List.nodup_cons.mp nd
    obtain ⟨O', h, n, s⟩ := Slots.Qq e r hap i (fun b hb z => na b hb (BK z)) nd'.2 t
    refine ⟨_, fun b hb => ?_, List.nodup_cons.mpr ⟨fun z => ?_, n⟩, .ow e' q s⟩
    · rcases List.mem_cons.mp hb with rfl | hb
      · exact .inr Bp
      · exact (h b hb).imp id (fun z => BK z)
    · rcases h _ z with z | z
      · exact na _ z Bp
      · exact nd'.1 z
  | _, _, _, i + 1, na, nd, .on e' q t => by
    have nd' := List.nodup_cons.mp nd
    have nd2 := List.nodup_append.mp nd'.2
    obtain ⟨O', h, n, s⟩ := Slots.Qq e r hap i (fun b hb z => na b hb (BK (Bj z))) nd2.2.1 t
    refine ⟨_, fun b hb => ?_, List.nodup_cons.mpr ⟨fun z => ?_, List.nodup_append.mpr ⟨nd2.1, n, fun x hx y hy hxy => ?_⟩⟩, .on e' q s⟩
    · rcases List.mem_cons.mp hb with rfl | hb
      · exact .inr Bp
      · rcases List.mem_append.mp hb with hb | hb
        · exact .inr (BK (Cy hb))
        · exact (h b hb).imp id (fun z => BK (Bj z))
    · rcases List.mem_append.mp z with z | z
      · exact nd'.1 (Cy z)
      · rcases h _ z with z | z
        · exact na _ z Bp
        · exact nd'.1 (Bj z)
    · rcases h y hy with z | z
      · exact na y z (by rw [← hxy]; exact BK (Cy hx))
      · exact nd2.2.2 x hx y z hxy
theorem Slots.Sg {a : Addr} {c : Cn} (e : Gf K G H a c) : ∀ {σ : St} {ρ : Am} {O : List Addr} (i : Nat), a ∉ O → O.Nodup → Slots K G H σ ρ O →
    ∃ O', (∀ b ∈ O', b = a ∨ b ∈ O) ∧ O'.Nodup ∧ Slots K G H (σ.set i (some (.ref a))) (ρ.set i (.tr a c)) O'
  | _, _, _, _, _, nd, .nil => ⟨[], (fun b h => by cases h), nd, .nil⟩
  | _, _, _, 0, na, nd, .no t => ⟨_, fun b h => List.mem_cons.mp h, List.nodup_cons.mpr ⟨na, nd⟩, .tr e t⟩
  | _, _, _, 0, na, nd, .sh _ t => ⟨_, fun b h => List.mem_cons.mp h, List.nodup_cons.mpr ⟨na, nd⟩, .tr e t⟩
  | _, _, _, 0, na, nd, .ow _ _ t => ⟨_, fun b h => (List.mem_cons.mp h).imp id (fun z => BK z), List.nodup_cons.mpr ⟨fun z => na (BK z), (List.nodup_cons.mp nd).2⟩, .tr e t⟩
  | _, _, _, 0, na, nd, .tr _ t => ⟨_, fun b h => (List.mem_cons.mp h).imp id (fun z => BK z), List.nodup_cons.mpr ⟨fun z => na (BK z), (List.nodup_cons.mp nd).2⟩, .tr e t⟩
  | _, _, _, 0, na, nd, .on _ _ t => ⟨_, fun b h => (List.mem_cons.mp h).imp id (fun z => BK (Bj z)), List.nodup_cons.mpr ⟨fun z => na (BK (Bj z)), (List.nodup_append.mp (List.nodup_cons.mp nd).2).2.1⟩, .tr e t⟩
  | _, _, _, i + 1, na, nd, .no t => by obtain ⟨O', h, n, s⟩ := Slots.Sg e i na nd t; exact ⟨O', h, n, .no s⟩
  | _, _, _, i + 1, na, nd, .sh q t => by obtain ⟨O', h, n, s⟩ := Slots.Sg e i na nd t; exact ⟨O', h, n, .sh q s⟩
  | _, _, _, i + 1, na, nd, .ow e' q t => by
    have nd' := List.nodup_cons.mp nd
    obtain ⟨O', h, n, s⟩ := Slots.Sg e i (fun z => na (BK z)) nd'.2 t
    refine ⟨_, fun b hb => ?_, List.nodup_cons.mpr ⟨fun z => ?_, n⟩, .ow e' q s⟩
    · rcases List.mem_cons.mp hb with rfl | hb
      · exact .inr Bp
      · exact (h b hb).imp id (fun z => BK z)
    · rcases h _ z with z | z
      · exact na (by rw [← z]; exact Bp)
      · exact nd'.1 z
  | _, _, _, i + 1, na, nd, .tr q t => by
    have nd' := List.nodup_cons.mp nd
    obtain ⟨O', h, n, s⟩ := Slots.Sg e i (fun z => na (BK z)) nd'.2 t
    refine ⟨_, fun b hb => ?_, List.nodup_cons.mpr ⟨fun z => ?_, n⟩, .tr q s⟩
    · rcases List.mem_cons.mp hb with rfl | hb
      · exact .inr Bp
      · exact (h b hb).imp id (fun z => BK z)
    · rcases h _ z with z | z
      · exact na (by rw [← z]; exact Bp)
      · exact nd'.1 z
  | _, _, _, i + 1, na, nd, .on e' q t => by
    have nd' := List.nodup_cons.mp nd
    have nd2 := List.nodup_append.mp nd'.2
    obtain ⟨O', h, n, s⟩ := Slots.Sg e i (fun z => na (BK (Bj z))) nd2.2.1 t
    refine ⟨_, fun b hb => ?_, List.nodup_cons.mpr ⟨fun z => ?_, List.nodup_append.mpr ⟨nd2.1, n, fun x hx y hy hxy => ?_⟩⟩, .on e' q s⟩
    · rcases List.mem_cons.mp hb with rfl | hb
      · exact .inr Bp
      · rcases List.mem_append.mp hb with hb | hb
        · exact .inr (BK (Cy hb))
        · exact (h b hb).imp id (fun z => BK (Bj z))
    · rcases List.mem_append.mp z with z | z
      · exact nd'.1 (Cy z)
      · rcases h _ z with z | z
        · exact na (by rw [← z]; exact Bp)
        · exact nd'.1 (Bj z)
    · rcases h y hy with z | z
      · exact na (by rw [← z, ← hxy]; exact BK (Cy hx))
      · exact nd2.2.2 x hx y z hxy
theorem Slots.Hf : ∀ {σ : St} {ρ : Am} {O : List Addr} {i : Nat} {a : Addr} {c : Cn}, Slots K G H σ ρ O → ρ[i]? = some (.tr a c) → σ[i]? = some (some (.ref a)) ∧ a ∈ O ∧ Gf K G H a c
  | _, _, _, _, _, _, .nil, h => by cases h
  | _, _, _, 0, _, _, .no t, h => by cases h
  | _, _, _, 0, _, _, .sh _ t, h => by cases h
  | _, _, _, 0, _, _, .ow _ _ t, h => by cases h
  | _, _, _, 0, _, _, .on _ _ t, h => by cases h
  | _, _, _, 0, _, _, .tr e t, h => by cases h; exact ⟨rfl, Bp, e⟩
  | _, _, _, i + 1, _, _, .no t, h => Slots.Hf (i := i) t h
  | _, _, _, i + 1, _, _, .sh _ t, h => Slots.Hf (i := i) t h
  | _, _, _, i + 1, _, _, .ow _ _ t, h => by
    obtain ⟨h1, h2, h3⟩ := Slots.Hf (i := i) t h
    exact ⟨h1, BK h2, h3⟩
  | _, _, _, i + 1, _, _, .tr _ t, h => by
    obtain ⟨h1, h2, h3⟩ := Slots.Hf (i := i) t h
    exact ⟨h1, BK h2, h3⟩
  | _, _, _, i + 1, _, _, .on _ _ t, h => by
    obtain ⟨h1, h2, h3⟩ := Slots.Hf (i := i) t h
    exact ⟨h1, BK (Bj h2), h3⟩
theorem Slots.Gm : ∀ {σ : St} {ρ : Am} {O : List Addr} {i : Nat} {ds : List D}, Slots K G H σ ρ O → ρ[i]? = some (.ow ds) → ∃ a xs, σ[i]? = some (some (.ref a)) ∧ a ∈ O ∧ H a = some (.lst xs) ∧ BL K G xs ds
  | _, _, _, _, _, .nil, h => by cases h
  | _, _, _, 0, _, .no t, h => by cases h
  | _, _, _, 0, _, .sh _ t, h => by cases h
  | _, _, _, 0, _, .ow e r t, h => by cases h; exact ⟨_, _, rfl, Bp, e, r⟩
  | _, _, _, i + 1, _, .no t, h => Slots.Gm (i := i) t h
  | _, _, _, i + 1, _, .sh _ t, h => Slots.Gm (i := i) t h
  | _, _, _, i + 1, _, .ow _ _ t, h => by
    obtain ⟨a, xs, h1, h2, h3⟩ := Slots.Gm (i := i) t h
    exact ⟨a, xs, h1, BK h2, h3⟩
  | _, _, _, 0, _, .on _ _ t, h => by cases h
  | _, _, _, 0, _, .tr _ t, h => by cases h
  | _, _, _, i + 1, _, .tr _ t, h => by
    obtain ⟨a, xs, h1, h2, h3⟩ := Slots.Gm (i := i) t h
    exact ⟨a, xs, h1, BK h2, h3⟩
  | _, _, _, i + 1, _, .on _ _ t, h => by
    obtain ⟨a, xs, h1, h2, h3⟩ := Slots.Gm (i := i) t h
    exact ⟨a, xs, h1, BK (Bj h2), h3⟩
theorem Slots.Fw : ∀ {σ : St} {ρ : Am} {O : List Addr} {i : Nat} {dss : List (List D)}, O.Nodup → Slots K G H σ ρ O → ρ[i]? = some (.on dss) → ∃ a ps, σ[i]? = some (some (.ref a)) ∧ (∀ b ∈ a :: ps, b ∈ O) ∧ (a :: ps).Nodup ∧ H a = some (.lst (ps.map V.ref)) ∧ Inner K G H ps dss
  | _, _, _, _, _, _, .nil, h => by cases h
  | _, _, _, 0, _, _, .no t, h => by cases h
  | _, _, _, 0, _, _, .sh _ t, h => by cases h
  | _, _, _, 0, _, _, .ow _ _ t, h => by cases h
  | _, _, _, 0, _, _, .tr _ t, h => by cases h
  | _, _, _, i + 1, _, nd, .tr _ t, h => by
    obtain ⟨a, xs, h1, h2, h3⟩ := Slots.Fw (i := i) (List.nodup_cons.mp nd).2 t h
    exact ⟨a, xs, h1, fun b hb => BK (h2 b hb), h3⟩
  | _, _, _, 0, _, nd, .on e r t, h => by
    cases h
    have nd' : ((_ :: _) ++ _).Nodup := nd
    exact ⟨_, _, rfl, fun b hb => Cy hb, (List.nodup_append.mp nd').1, e, r⟩
  | _, _, _, i + 1, _, nd, .no t, h => Slots.Fw (i := i) nd t h
  | _, _, _, i + 1, _, nd, .sh _ t, h => Slots.Fw (i := i) nd t h
  | _, _, _, i + 1, _, nd, .ow _ _ t, h => by
    obtain ⟨a, xs, h1, h2, h3⟩ := Slots.Fw (i := i) (List.nodup_cons.mp nd).2 t h
    exact ⟨a, xs, h1, fun b hb => BK (h2 b hb), h3⟩
  | _, _, _, i + 1, _, nd, .on _ _ t, h => by
    obtain ⟨a, xs, h1, h2, h3⟩ := Slots.Fw (i := i) (List.nodup_append.mp (List.nodup_cons.mp nd).2).2.1 t h
    exact ⟨a, xs, h1, fun b hb => BK (Bj (h2 b hb)), h3⟩
theorem Slots.write {a : Addr} {ys : List V} {es : List D} (r : BL K G ys es) : ∀ {σ : St} {ρ : Am} {O : List Addr} {i : Nat} {ds : List D}, O.Nodup → Slots K G H σ ρ O → ρ[i]? = some (.ow ds) → σ[i]? = some (some (.ref a)) →
    Slots K G (upd H a (.lst ys)) σ (ρ.set i (.ow es)) O
  | _, _, _, _, _, _, .nil, h, _ => by cases h
  | _, _, _, 0, _, _, .no t, h, _ => by cases h
  | _, _, _, 0, _, _, .sh _ t, h, _ => by cases h
  | _, _, _, 0, _, nd, .ow e _ t, h, h2 => by
    cases h2
    have nd' := List.nodup_cons.mp nd
    exact .ow Dg r (t.mono (Ak.refl _) fun b hb o e => by rw [Ba fun z => nd'.1 (by rw [← z]; exact hb)]; exact e)
  | _, _, _, i + 1, _, nd, .no t, h, h2 => .no (Slots.write (i := i) r nd t h h2)
  | _, _, _, i + 1, _, nd, .sh q t, h, h2 => .sh q (Slots.write (i := i) r nd t h h2)
  | _, _, _, i + 1, _, nd, .ow e q t, h, h2 => by
    have nd' := List.nodup_cons.mp nd
    obtain ⟨b, xs, h3, h4, _⟩ := Slots.Gm (i := i) t h
    have h2' : _ = some (some (V.ref a)) := h2
    rw [List.getElem?_cons_succ, h3] at h2'
    cases h2'
    exact .ow (by rw [Ba fun z => nd'.1 (by rw [z]; exact h4)]; exact e) q (Slots.write (i := i) r nd'.2 t h h2)
  | _, _, _, 0, _, _, .on _ _ t, h, _ => by cases h
  | _, _, _, 0, _, _, .tr _ t, h, _ => by cases h
  | _, _, _, i + 1, _, nd, .tr q t, h, h2 => by
    have nd' := List.nodup_cons.mp nd
    obtain ⟨b, xs, h3, h4, _⟩ := Slots.Gm (i := i) t h
    have h2' : _ = some (some (V.ref a)) := h2
    rw [List.getElem?_cons_succ, h3] at h2'
    cases h2'
    exact .tr (q.mono (Ak.refl _) fun o e => by rw [Ba fun z => nd'.1 (by rw [z]; exact h4)]; exact e) (Slots.write (i := i) r nd'.2 t h h2)
  | _, _, _, i + 1, _, nd, .on e q t, h, h2 => by
    have nd' := List.nodup_cons.mp nd
    have nd2 := List.nodup_append.mp nd'.2
    obtain ⟨b, xs, h3, h4, _⟩ := Slots.Gm (i := i) t h
    have h2' : _ = some (some (V.ref a)) := h2
    rw [List.getElem?_cons_succ, h3] at h2'
    cases h2'
    exact .on (by rw [Ba fun z => nd'.1 (by rw [z]; exact Bj h4)]; exact e) (q.mono (Ak.refl _) fun b hb o e => by rw [Ba fun z => nd2.2.2 b hb a (by first | exact h4 | (rw [← z]; exact h4)) (by first | exact z | rfl)]; exact e) (Slots.write (i := i) r nd2.2.1 t h h2)
theorem Slots.cZ {p : Addr} {ps : List Addr} {a : Addr} {j : Nat} {σ : St} {ρ : Am} {O : List Addr} {i : Nat} {dss : List (List D)} (nd : O.Nodup) (s : Slots K G H σ ρ O) (h : ρ[i]? = some (.on dss)) (h2 : σ[i]? = some (some (.ref a))) (ha : H a = some (.lst (ps.map V.ref))) (hj : ps[j]? = some p) : p ∈ O := by
  obtain ⟨a', ps', h3, h4, h5, h6, h7⟩ := s.Fw nd h
  rw [h2] at h3
  cases h3
  have ep : ps' = ps := by
    rw [h6] at ha
    have : ps'.map V.ref = ps.map V.ref := by injection ha with ha; injection ha
    exact (List.map_inj_right fun x y z => by injection z).mp this
  subst ep
  exact h4 p (BK (List.mem_of_getElem? hj))
theorem Slots.JZ {p : Addr} {ps : List Addr} {a : Addr} {j : Nat} {ys : List V} {es : List D} (r : BL K G ys es) : ∀ {σ : St} {ρ : Am} {O : List Addr} {i : Nat} {dss : List (List D)}, O.Nodup → Slots K G H σ ρ O → ρ[i]? = some (.on dss) → σ[i]? = some (some (.ref a)) → H a = some (.lst (ps.map V.ref)) → ps[j]? = some p →
    Slots K G (upd H p (.lst ys)) σ (ρ.set i (.on (dss.set j es))) O
  | _, _, _, _, _, _, .nil, h, _, _, _ => by cases h
  | _, _, _, 0, _, _, .no t, h, _, _, _ => by cases h
  | _, _, _, 0, _, _, .sh _ t, h, _, _, _ => by cases h
  | _, _, _, 0, _, _, .ow _ _ t, h, _, _, _ => by cases h
  | _, _, _, 0, _, _, .tr _ t, h, _, _, _ => by cases h
  | _, _, _, i + 1, _, nd, .tr q t, h, h2, ha, hj => by
    have nd' := List.nodup_cons.mp nd
    have hp := Slots.cZ (i := i) nd'.2 t h h2 ha hj
    exact .tr (q.mono (Ak.refl _) fun o e => by rw [Ba fun z => nd'.1 (by rw [z]; exact hp)]; exact e) (Slots.JZ (i := i) r nd'.2 t h h2 ha hj)
  | _, _, _, 0, _, nd, .on e q t, h, h2, ha, hj => by
    cases h
    cases h2
    have nd' := List.nodup_cons.mp nd
    have nd2 := List.nodup_append.mp nd'.2
    cases Uw e ha
    have hm := List.mem_of_getElem? hj
    refine .on (by rw [Ba fun z => nd'.1 (by rw [z]; exact Cy hm)]; exact e) (q.write r nd2.1 hj) (t.mono (Ak.refl _) fun b hb o e => ?_)
    rw [Ba fun z => nd2.2.2 p hm b hb z.symm]
    exact e
  | _, _, _, i + 1, _, nd, .no t, h, h2, ha, hj => .no (Slots.JZ (i := i) r nd t h h2 ha hj)
  | _, _, _, i + 1, _, nd, .sh q t, h, h2, ha, hj => .sh q (Slots.JZ (i := i) r nd t h h2 ha hj)
  | _, _, _, i + 1, _, nd, .ow e q t, h, h2, ha, hj => by
    have nd' := List.nodup_cons.mp nd
    have hp := Slots.cZ (i := i) nd'.2 t h h2 ha hj
    exact .ow (by rw [Ba fun z => nd'.1 (by rw [z]; exact hp)]; exact e) q (Slots.JZ (i := i) r nd'.2 t h h2 ha hj)
  | _, _, _, i + 1, _, nd, .on e q t, h, h2, ha, hj => by
    have nd' := List.nodup_cons.mp nd
    have nd2 := List.nodup_append.mp nd'.2
    have hp := Slots.cZ (i := i) nd2.2.1 t h h2 ha hj
    exact .on (by rw [Ba fun z => nd'.1 (by rw [z]; exact Bj hp)]; exact e) (q.mono (Ak.refl _) fun b hb o e => by rw [Ba fun z => nd2.2.2 b hb p hp z]; exact e) (Slots.JZ (i := i) r nd2.2.1 t h h2 ha hj)
end
structure By (K : Frag) (H0 : Hp) (O0 : List Addr) (G : Hp) (σ : St) (H : Hp) (ρ : Am) : Prop where
  ex : ∃ O, Ak H0 H ∧ (∀ a ∈ O, H0 a = none) ∧ O.Nodup ∧ Ak G (Ai (O0 ++ O) H) ∧ Slots K (Ai (O0 ++ O) H) H σ ρ O
structure GQ (K : Frag) (H0 : Hp) (O0 : List Addr) (G : Hp) (σ : St) (H : Hp) (ρ : Am) (v : V) (s : Sl) : Prop where
  ex : ∃ O P, Ak H0 H ∧ (∀ a ∈ O, H0 a = none) ∧ O.Nodup ∧ Ak G (Ai (O0 ++ (P ++ O)) H) ∧ Slots K (Ai (O0 ++ (P ++ O)) H) H σ ρ O ∧
    match s with
    | .no => False
    | .sh d => P = [] ∧ Rep K (Ai (O0 ++ (P ++ O)) H) v d
    | .ow ds => ∃ a xs, P = [a] ∧ v = .ref a ∧ a ∉ O ∧ H0 a = none ∧ H a = some (.lst xs) ∧ BL K (Ai (O0 ++ (P ++ O)) H) xs ds
    | .on dss => ∃ a ps, P = a :: ps ∧ v = .ref a ∧ (a :: ps).Nodup ∧ (∀ b ∈ a :: ps, b ∉ O ∧ H0 b = none) ∧ H a = some (.lst (ps.map V.ref)) ∧ Inner K (Ai (O0 ++ (P ++ O)) H) H ps dss
    | .tr a c => P = [a] ∧ v = .ref a ∧ a ∉ O ∧ H0 a = none ∧ Gf K (Ai (O0 ++ (P ++ O)) H) H a c
section
variable {K : Frag} {H0 : Hp} {O0 : List Addr} {G : Hp} {σ : St} {H H' : Hp} {ρ : Am}
theorem HW (ok : CP O0 H0) {O : List Addr} (s0 : Ak H0 H) (sl : Slots K G H σ ρ O) : CP (O0 ++ O) H := fun a ha => by
  rcases List.mem_append.mp ha with h | h
  · exact (ok.mono s0) a h
  · obtain ⟨o, e, _⟩ := sl.mem a h
    exact ⟨_, e⟩
theorem By.grow (t : By K H0 O0 G σ H ρ) (s : Ak H H') : By K H0 O0 G σ H' ρ := by
  obtain ⟨O, s0, n, nd, g, sl⟩ := t.ex
  exact ⟨O, s0.trans s, n, nd, g.trans (Ds s), sl.mono (Ds s) fun a _ o e => s a o e⟩
theorem GQ.grow {v : V} {d : D} (t : GQ K H0 O0 G σ H ρ v (.sh d)) (s : Ak H H') : GQ K H0 O0 G σ H' ρ v (.sh d) := by
  obtain ⟨O, P, s0, n, nd, g, sl, hp, r⟩ := t.ex
  exact ⟨O, P, s0.trans s, n, nd, g.trans (Ds s), sl.mono (Ds s) fun a _ o e => s a o e, hp, r.Ai s⟩
theorem GQ.str {v : V} {d : D} (t : GQ K H0 O0 G σ H ρ v (.sh d)) : By K H0 O0 G σ H ρ := by
  obtain ⟨O, P, s0, n, nd, g, sl, hp, r⟩ := t.ex
  subst hp
  exact ⟨O, s0, n, nd, g, sl⟩
theorem GQ.set {v : V} {s : Sl} (t : GQ K H0 O0 G σ H ρ v s) (i : Nat) : By K H0 O0 G (σ.set i (some v)) H (ρ.set i s) := by
  obtain ⟨O, P, s0, n, nd, g, sl, h⟩ := t.ex
  cases s with
  | no => exact h.elim
  | sh d =>
    obtain ⟨rfl, r⟩ := h
    obtain ⟨O', hs, sl'⟩ := sl.O7 r i
    have sub : ∀ b, b ∈ O0 ++ O' → b ∈ O0 ++ ([] ++ O) := fun b hb => (List.mem_append.mp hb).elim (fun z => Cy z) fun z => Bj (hs.subset z)
    exact ⟨O', s0, fun a ha => n a (hs.subset ha), hs.nodup nd, g.trans (DQ sub), sl'.mono (DQ sub) fun _ _ _ e => e⟩
  | ow ds =>
    obtain ⟨a, xs, rfl, rfl, na, h0, e, r⟩ := h
    obtain ⟨O', hs, nd', sl'⟩ := sl.RJ e r i na nd
    have sub : ∀ b, b ∈ O0 ++ O' → b ∈ O0 ++ ([a] ++ O) := fun b hb => (List.mem_append.mp hb).elim (fun z => Cy z) fun z => Bj (by
      rcases hs b z with rfl | z
      · simp
      · simp [z])
    refine ⟨O', s0, fun b hb => ?_, nd', g.trans (DQ sub), sl'.mono (DQ sub) fun _ _ _ e => e⟩
    rcases hs b hb with rfl | z
    · exact h0
    · exact n b z
  | on dss =>
    obtain ⟨a, ps, rfl, rfl, nda, na, e, r⟩ := h
    obtain ⟨O', hs, nd', sl'⟩ := sl.Qq e r nda i (fun b hb => (na b hb).1) nd
    have sub : ∀ b, b ∈ O0 ++ O' → b ∈ O0 ++ ((a :: ps) ++ O) := fun b hb => (List.mem_append.mp hb).elim (fun z => Cy z) fun z => Bj (by
      rcases hs b z with z | z
      · exact Cy z
      · exact Bj z)
    refine ⟨O', s0, fun b hb => ?_, nd', g.trans (DQ sub), sl'.mono (DQ sub) fun _ _ _ e => e⟩
    rcases hs b hb with z | z
    · exact (na b z).2
    · exact n b z
  | tr a c =>
    obtain ⟨rfl, rfl, na, h0, r⟩ := h
    obtain ⟨O', hs, nd', sl'⟩ := sl.Sg r i na nd
    have sub : ∀ b, b ∈ O0 ++ O' → b ∈ O0 ++ ([a] ++ O) := fun b hb => (List.mem_append.mp hb).elim (fun z => Cy z) fun z => Bj (by
      rcases hs b z with rfl | z
      · simp
      · simp [z])
    refine ⟨O', s0, fun b hb => ?_, nd', g.trans (DQ sub), sl'.mono (DQ sub) fun _ _ _ e => e⟩
    rcases hs b hb with rfl | z
    · exact h0
    · exact n b z
end
inductive Out where
  | nx (ρ : Am)
  | rt (d : D)
  | rl (ds : List D)
  | rn (dss : List (List D))
  | rp (ds : List D) (d : D)
  | ro (d : D) (ρ : Am)
  | bk (ρ : Am)
  | ct (ρ : Am)
def YZ (K : Frag) (H0 : Hp) (O0 : List Addr) (G : Hp) (E : Ends) : Out → Prop
  | .nx ρ => ∀ σ H, By K H0 O0 G σ H ρ → E.nx σ H
  | .rt d => ∀ v H', Ak H0 H' → Rep K (Ai O0 H') v d → E.rt v H'
  | .rl ds => ∀ a xs H', Ak H0 H' → H0 a = none → H' a = some (.lst xs) → BL K (Ai (a :: O0) H') xs ds → E.rt (.ref a) H'
  | .rn dss => ∀ a ps H', Ak H0 H' → (a :: ps).Nodup → (∀ b ∈ a :: ps, H0 b = none) → H' a = some (.lst (ps.map V.ref)) → Inner K (Ai ((a :: ps) ++ O0) H') H' ps dss → E.rt (.ref a) H'
  | .rp ds d => ∀ p a xs v H', Ak H0 H' → H0 a = none → H0 p = none → H' a = some (.lst xs) → H' p = some (.tup [.ref a, v]) → BL K (Ai (a :: O0) H') xs ds → Rep K (Ai (a :: O0) H') v d → E.rt (.ref p) H'
  | .ro d ρ => ∀ v σ H', GQ K H0 O0 (fun _ => none) σ H' ρ v (.sh d) → E.rt v H'
  | .bk ρ => ∀ σ H, By K H0 O0 G σ H ρ → E.bk σ H
  | .ct ρ => ∀ σ H, By K H0 O0 G σ H ρ → E.ct σ H
abbrev Ao := Am → Option Out
def Jo (K : Frag) (ts : TS) (F : Ao) : Prop := ∀ (H0 : Hp) (O0 : List Addr) (G : Hp) (σ : St) (H : Hp) (ρ : Am) (o : Out) (E : Ends), CP O0 H0 → By K H0 O0 G σ H ρ → F ρ = some o → YZ K H0 O0 G E o → ts E σ H
def Ga (K : Frag) (te : TE) (vf : Am → Option Sl) : Prop := ∀ (H0 : Hp) (O0 : List Addr) (G : Hp) (σ : St) (H : Hp) (ρ : Am) (s : Sl) (Q : VK), CP O0 H0 → By K H0 O0 G σ H ρ → vf ρ = some s →
  (∀ v H', Ak H H' → GQ K H0 O0 G σ H' ρ v s → Q v H') → te σ H Q
structure JS (X : Cx) (K : Frag) (st : Stmt) (ts : TS) (F : Ao) : Prop where
  pe : PS X st ts
  pu : Jo K ts F
structure Gu (X : Cx) (K : Frag) (st : List Stmt) (ts : TS) (F : Ao) : Prop where
  pe : FZ X st ts
  pu : Jo K ts F
mutual
def Ge : D → Bool
  | .list _ => false
  | .dict _ => false
  | .tuple ds => Fp ds
  | _ => true
def Fp : List D → Bool
  | [] => true
  | d :: ds => Ge d && Fp ds
end
section
variable {K : Frag} {O0 O : List Addr} {H : Hp}
mutual
theorem iH (h : ∀ a ∈ O, ∃ o, H a = some o ∧ VH o = true) : ∀ {v : V} {d : D}, Rep K (Ai O0 H) v d → Ge d = true → Rep K (Ai (O0 ++ O) H) v d
  | _, _, .non, _ => .non
  | _, _, .bl b, _ => .bl b
  | _, _, .int i, _ => .int i
  | _, _, .str x, _ => .str x
  | _, _, .lst _ _, f => by simp [Ge] at f
  | _, _, .tup (a := a) q r, f => by
    have hr := Vv h r (by simpa [Ge] using f)
    refine .tup ?_ hr
    rcases q with (q | ⟨o, q⟩) | q
    · obtain ⟨n, q⟩ := Gr q
      have na : a ∉ O := fun z => by
        obtain ⟨_, e, e2⟩ := h a z
        rw [q] at e
        cases e
        cases e2
      exact .inl (.inl (by rw [Cj (by simp [n, na])]; exact q))
    · obtain ⟨n, q⟩ := Gr q
      have na : a ∉ O := fun z => by
        obtain ⟨_, e, e2⟩ := h a z
        rw [q] at e
        cases e
        cases e2
      exact .inl (.inr ⟨o, by rw [Cj (by simp [n, na])]; exact q⟩)
    · exact .inr q
theorem Vv (h : ∀ a ∈ O, ∃ o, H a = some o ∧ VH o = true) : ∀ {vs : List V} {ds : List D}, BL K (Ai O0 H) vs ds → Fp ds = true → BL K (Ai (O0 ++ O) H) vs ds
  | _, _, .nil, _ => .nil
  | _, _, .cons r t, f => by
    have f' := Bool.and_eq_true_iff.mp (show (Ge _ && Fp _) = true from f)
    exact .cons (iH h r f'.1) (Vv h t f'.2)
end
end
def vF (f : PF) : Am → Option Sl := fun ρ => (f (full ρ)).bind fun d => if Ge d = true then some (.sh d) else none
def vS (f : PF) : Am → Option Sl := fun ρ => (f (masked ρ)).bind fun d => some (.sh d)
def vL (f : BW) : Am → Option Sl := fun ρ => (f (masked ρ)).bind fun ds => some (.ow ds)
def Kd (f : BW) : Am → Option Sl := fun ρ => (f (full ρ)).bind fun ds => if Fp ds = true then some (.ow ds) else none
section
variable {K : Frag} {te : TE} {f : PF} {fl : BW}
theorem By.Hj {H0 : Hp} {O0 : List Addr} {G : Hp} {σ : St} {H : Hp} {ρ : Am} (ok : CP O0 H0) (t : By K H0 O0 G σ H ρ) : CP O0 H ∧ Dl K (Ai O0 H) σ (full ρ) := by
  obtain ⟨O, s0, n, nd, g, sl⟩ := t.ex
  refine ⟨ok.mono s0, sl.full (DQ fun b hb => Cy hb) fun a ha o e => ?_⟩
  rw [Cj (ok.fresh (n a ha))]
  exact e
theorem NK (h : Gj K te f) : Ga K te (vS f) := by
  intro H0 O0 G σ H ρ s Q ok t hf q
  obtain ⟨d, e1, hf⟩ := Al hf
  cases hf
  obtain ⟨O, s0, n, nd, g, sl⟩ := t.ex
  refine h (O0 ++ O) σ H (masked ρ) d Q (HW ok s0 sl) sl.mask e1 fun v H' s' r => q v H' s' ⟨O, [], s0.trans s', n, nd, g.trans (Ds s'), sl.mono (Ds s') fun a _ o e => s' a o e, rfl, r⟩
theorem AGk (h : Gj K te f) : Ga K te (vF f) := by
  intro H0 O0 G σ H ρ s Q ok t hf q
  obtain ⟨d, e1, hf⟩ := Al hf
  by_cases hc : Ge d = true
  · rw [if_pos hc] at hf
    cases hf
    have ⟨o1, e2⟩ := t.Hj ok
    obtain ⟨O, s0, n, nd, g, sl⟩ := t.ex
    refine h O0 σ H (full ρ) d Q o1 e2 e1 fun v H' s' r => ?_
    have sl' := sl.mono (Ds (O := O0 ++ O) s') fun a _ o e => s' a o e
    exact q v H' s' ⟨O, [], s0.trans s', n, nd, g.trans (Ds s'), sl', rfl, iH sl'.mem r hc⟩
  · rw [if_neg hc] at hf
    cases hf
theorem qP {O0 O : List Addr} {a : Addr} {H : Hp} : Ai (a :: (O0 ++ O)) H = Ai (O0 ++ ([a] ++ O)) H := by
  funext b
  by_cases h : b ∈ a :: (O0 ++ O)
  · rw [Rq h, Rq (by simp at h ⊢; rcases h with h | h | h <;> simp [h])]
  · rw [Cj h, Cj (by simp at h ⊢; exact ⟨h.2.1, h.1, h.2.2⟩)]
theorem WT (h : LQ K te fl) : Ga K te (vL fl) := by
  intro H0 O0 G σ H ρ s Q ok t hf q
  obtain ⟨d, e1, hf⟩ := Al hf
  cases hf
  obtain ⟨O, s0, n, nd, g, sl⟩ := t.ex
  have okA := HW ok s0 sl
  refine h (O0 ++ O) σ H (masked ρ) d Q okA sl.mask e1 fun a xs H' s' hn ha r => ?_
  have na : a ∉ O := fun z => okA.fresh hn (Bj z)
  have big : Ak (Ai (O0 ++ O) H) (Ai (O0 ++ ([a] ++ O)) H') := fun b o e => by
    obtain ⟨n1, e⟩ := Gr e
    have nb : b ≠ a := De e hn
    rw [Cj (by simp at n1 ⊢; exact ⟨n1.1, nb, n1.2⟩)]
    exact s' b o e
  refine q (.ref a) H' s' ⟨O, [a], s0.trans s', n, nd, g.trans big, sl.mono big fun b _ o e => s' b o e, a, xs, rfl, rfl, na, s0.free hn, ha, ?_⟩
  rw [← qP]
  exact r
theorem AHr (h : LQ K te fl) : Ga K te (Kd fl) := by
  intro H0 O0 G σ H ρ s Q ok t hf q
  obtain ⟨d, e1, hf⟩ := Al hf
  by_cases hc : Fp d = true
  · rw [if_pos hc] at hf
    cases hf
    have ⟨o1, e2⟩ := t.Hj ok
    obtain ⟨O, s0, n, nd, g, sl⟩ := t.ex
    have okA := HW ok s0 sl
    refine h O0 σ H (full ρ) d Q o1 e2 e1 fun a xs H' s' hn ha r => ?_
    have na : a ∉ O := fun z => okA.fresh hn (Bj z)
    have big : Ak (Ai (O0 ++ O) H) (Ai (O0 ++ ([a] ++ O)) H') := fun b o e => by
      obtain ⟨n1, e⟩ := Gr e
      have nb : b ≠ a := De e hn
      rw [Cj (by simp at n1 ⊢; exact ⟨n1.1, nb, n1.2⟩)]
      exact s' b o e
    have sl' := sl.mono big fun b _ o e => s' b o e
    refine q (.ref a) H' s' ⟨O, [a], s0.trans s', n, nd, g.trans big, sl', a, xs, rfl, rfl, na, s0.free hn, ha, ?_⟩
    have := Vv (K := K) (O0 := a :: O0) (O := O) sl'.mem r hc
    rw [← qP]
    exact this
  · rw [if_neg hc] at hf
    cases hf
theorem By.M7 {H0 : Hp} {O0 : List Addr} {G : Hp} {σ : St} {H : Hp} {ρ : Am} {d : D} {Q : VK} (h : Gj K te f) (ok : CP O0 H0) (t : By K H0 O0 G σ H ρ) (e1 : f (L2.full ρ) = some d) (q : ∀ v H', Ak H H' → By K H0 O0 G σ H' ρ → Rep K (Ai O0 H') v d → Q v H') : te σ H Q := by
  have ⟨o1, e2⟩ := t.Hj ok
  exact h O0 σ H (L2.full ρ) d Q o1 e2 e1 fun v H' s' r => q v H' s' (t.grow s') r
theorem By.same {H0 : Hp} {O0 : List Addr} {G : Hp} {σ : St} {H : Hp} {ρ : Am} (t : By K H0 O0 G σ H ρ) : Ak H0 H := by
  obtain ⟨O, s0, _⟩ := t.ex
  exact s0
end
def DK : Ao := fun ρ => some (.nx ρ)
def Aw (F F' : Ao) : Ao := fun ρ => (F ρ).bind fun o => match o with
  | .nx ρ' => F' ρ'
  | .rt d => some (.rt d)
  | .rl d => some (.rl d)
  | .rn d => some (.rn d)
  | .rp d e => some (.rp d e)
  | .ro d e => some (.ro d e)
  | .bk ρ' => some (.bk ρ')
  | .ct ρ' => some (.ct ρ')
def Bb (i : Nat) (vf : Am → Option Sl) : Ao := fun ρ => (vf ρ).bind fun s => some (.nx (ρ.set i s))
def mH (f : PF) : Ao := fun ρ => (f (full ρ)).bind fun _ => some (.nx ρ)
def Br (f : PF) : Ao := fun ρ => (f (full ρ)).bind fun d => some (.rt d)
def Hd (f : BW) : Ao := fun ρ => (f (full ρ)).bind fun d => some (.rl d)
def QG : Sl → Option (List D)
  | .ow ds => some ds
  | _ => none
def Li : Sl → Option D
  | .sh d => some d
  | _ => none
def Ma (i : Nat) : Ao := fun ρ => (ρ[i]?).bind fun s => (QG s).bind fun ds => some (.rl ds)
def wN : Ao := fun _ => some (.rt .none)
def Cd (c : PB) (F F' : Ao) : Ao := fun ρ => (c (full ρ)).bind fun b => if b = true then F ρ else F' ρ
def Qv : Ao := fun _ => none
def QC (i : Nat) (vf : Am → Option Sl) : Ao := fun ρ => (vf ρ).bind fun s => (Li s).bind fun d => (ρ[i]?).bind fun s' => (QG s').bind fun ds => if fits ds.length = true then some (.nx (ρ.set i (.ow (ds ++ [d])))) else none
def Jh (i : Nat) (fi : PF) (vf : Am → Option Sl) : Ao := fun ρ => (vf ρ).bind fun s => (Li s).bind fun d => (fi (full ρ)).bind fun k => (Jd k).bind fun k => (ρ[i]?).bind fun s' => (QG s').bind fun ds => (Dz ds.length k).bind fun j => some (.nx (ρ.set i (.ow (ds.set j d))))
def uV (i : Nat) : Ao := fun ρ => (ρ[i]?).bind fun s' => (QG s').bind fun _ => some (.nx (ρ.set i (.ow [])))
def ADo : Sl → Sl
  | .ow ds => .sh (.list ds)
  | s => s
def ACy (i : Nat) (ρ : Am) : Am := ρ.modify i ADo
def v7 (i : Nat) (F : Ao) : Ao := fun ρ => F (ACy i ρ)
section
variable {X : Cx} {K : Frag} {st : Stmt} {rest : List Stmt} {t u : TS} {F F' : Ao} {pos : Pos}
theorem Eh : Gu X K [] lJ DK := ⟨AJm, by
  intro H0 O0 G σ H ρ o E ok s hf q
  cases hf
  exact q σ H s⟩
theorem BX (h : JS X K st t F) : Gu X K [st] t F := ⟨d8 h.pe, h.pu⟩
theorem BR (h1 : JS X K st t F) (h2 : Gu X K rest u F') : Gu X K (st :: rest) (Xn t u) (Aw F F') := ⟨gJ h1.pe h2.pe, by
  intro H0 O0 G σ H ρ o E ok s hf q
  obtain ⟨o1, e1, hf⟩ := Al hf
  refine h1.pu H0 O0 G σ H ρ o1 _ ok s e1 ?_
  cases o1 with
  | nx ρ' => exact fun σ' H' s' => h2.pu H0 O0 G σ' H' ρ' o E ok s' hf q
  | rt d => cases hf; exact q
  | rl d => cases hf; exact q
  | rn d => cases hf; exact q
  | rp d e => cases hf; exact q
  | ro d e => cases hf; exact q
  | bk d => cases hf; exact q
  | ct d => cases hf; exact q⟩
theorem xF : JS X K st nR Qv := ⟨AIM, by
  intro H0 O0 G σ H ρ o E ok s hf q
  cases hf⟩
theorem YM {te : TE} {i : Nat} {vf : Am → Option Sl} (h : PS X st (Ff te (FN i))) (pv : Ga K te vf) : JS X K st (Ff te (FN i)) (Bb i vf) := ⟨h, by
  intro H0 O0 G σ H ρ o E ok s hf q
  obtain ⟨v, e1, hf⟩ := Al hf
  cases hf
  exact pv H0 O0 G σ H ρ v _ ok s e1 fun x H' s' sv => q _ H' (sv.set i)⟩
section
variable {i : Nat} {x : Str} {e : Expr} {te : TE} {pos' : Pos}
theorem CZ {f : PF} (hN : X.N.Nodup) (hi : X.N[i]? = some x) (hx : Loc X.env.scope x) (he : JE X K e te f) (hs : swapsWith e (some (.Name x pos')) pos.line X.env = pure false := by rfl) (hf : X.fn x = true ∨ X.env.scope.names.lookup x = some .local := by first | exact .inl rfl | exact .inr rfl | assumption) :
    JS X K (.Assign [.Name x pos'] e pos) (Ff te (FN i)) (Bb i (vS f)) := YM (cL hN hi hx he.pe hs hf) (NK he.pu)
theorem T6 {f : BW} (hN : X.N.Nodup) (hi : X.N[i]? = some x) (hx : Loc X.env.scope x) (he : JL X K e te f) (hs : swapsWith e (some (.Name x pos')) pos.line X.env = pure false := by rfl) (hf : X.fn x = true ∨ X.env.scope.names.lookup x = some .local := by first | exact .inl rfl | exact .inr rfl | assumption) :
    JS X K (.Assign [.Name x pos'] e pos) (Ff te (FN i)) (Bb i (vL f)) := YM (cL hN hi hx he.pe hs hf) (WT he.pu)
end
theorem Ce {e : Expr} {te : TE} {f : PF} (he : JE X K e te f) : JS X K (.Return (some e) pos) (Vb te) (Br f) := ⟨W5 he.pe, by
  intro H0 O0 G σ H ρ o E ok s hf q
  obtain ⟨d, e1, hf⟩ := Al hf
  cases hf
  exact s.M7 he.pu ok e1 fun v H' s' t' r => q v H' t'.same r⟩
theorem Jq {e : Expr} {te : TE} {f : BW} (he : JL X K e te f) : JS X K (.Return (some e) pos) (Vb te) (Hd f) := ⟨W5 he.pe, by
  intro H0 O0 G σ H ρ o E ok s hf q
  obtain ⟨d, e1, hf⟩ := Al hf
  cases hf
  have ⟨o1, e2⟩ := s.Hj ok
  exact he.pu O0 σ H (full ρ) d _ o1 e2 e1 fun a xs H' s' hn ha r => q a xs H' (s.same.trans s') (s.same.free hn) ha r⟩
theorem T8 (i : Nat) {x : Str} {p : Pos} (hN : X.N[i]? = some x := by rfl) (hv : Fx X.env.scope x := by first | exact Or.inl rfl | exact Or.inr (Or.inl rfl) | exact Or.inr (Or.inr rfl)) (hd : (x == ("__debug__" : Str)) = false := by decide)
    (hcd : (x == ("__classdict__" : Str)) = false := by decide) : JS X K (.Return (some (.Name x p)) pos) (Vb (Dm i)) (Ma i) := ⟨W5 (JH hN hv hd hcd), by
  intro H0 O0 G σ H ρ o E ok s hf q
  obtain ⟨sl, e1, hf⟩ := Al hf
  obtain ⟨ds, e2, hf⟩ := Al hf
  cases hf
  cases sl with
  | ow es =>
    cases e2
    obtain ⟨O, s0, n, nd, g, sl⟩ := s.ex
    obtain ⟨a, xs, h1, h2, h3, h4⟩ := sl.Gm e1
    refine ⟨_, h1, q a xs H s0 (n a h2) h3 (h4.mono (DQ fun b hb => ?_))⟩
    rcases List.mem_cons.mp hb with rfl | hb
    · exact Bj h2
    · exact Cy hb
  | _ => cases e2⟩
theorem Ed {c : Expr} {a b : List Stmt} {tc : TT} {pc : PB} (hc : JT X K c tc pc) (ha : Gu X K a t F) (hb : Gu X K b u F') : JS X K (.If c a b pos) (Ze tc t u) (Cd pc F F') := ⟨nU hc.pe ha.pe hb.pe, by
  intro H0 O0 G σ H ρ o E ok s hf q
  obtain ⟨k, e1, hf⟩ := Al hf
  have ⟨o1, e2⟩ := s.Hj ok
  refine hc.pu O0 σ H (full ρ) k _ o1 e2 e1 fun H' s' => ?_
  cases k with
  | true =>
    rw [if_pos rfl] at hf ⊢
    exact ha.pu H0 O0 G σ H' ρ o E ok (s.grow s') hf q
  | false =>
    rw [if_neg Bool.false_ne_true] at hf ⊢
    exact hb.pu H0 O0 G σ H' ρ o E ok (s.grow s') hf q⟩
end
end L2
namespace L2
open PySem PySem.Spec PyProof.Rows
structure Lg (K : Frag) (H0 : Hp) (O0 : List Addr) (G : Hp) (σ : St) (H : Hp) (ρ : Am) (vs : List V) (ds : List D) : Prop where
  ex : ∃ O, Ak H0 H ∧ (∀ a ∈ O, H0 a = none) ∧ O.Nodup ∧ Ak G (Ai (O0 ++ O) H) ∧ Slots K (Ai (O0 ++ O) H) H σ ρ O ∧ BL K (Ai (O0 ++ O) H) vs ds
def aL (K : Frag) (g : TG) (bs : D → Am → Option Am) : Prop := ∀ (H0 : Hp) (O0 : List Addr) (G : Hp) (σ : St) (H : Hp) (ρ : Am) (v : V) (d : D) (ρ' : Am) (Q : St → Hp → Prop), GQ K H0 O0 G σ H ρ v (.sh d) → bs d ρ = some ρ' →
  (∀ σ', By K H0 O0 G σ' H ρ' → Q σ' H) → g v σ H Q
structure Pz (X : Cx) (K : Frag) (tg : Expr) (g : TG) (bs : D → Am → Option Am) : Prop where
  pe : PG X tg g
  pu : aL K g bs
def Kf (i : Nat) : D → Am → Option Am := fun d ρ => some (ρ.set i (.sh d))
def Ha (i j : Nat) : D → Am → Option Am
  | .tuple [a, b], ρ => some ((ρ.set i (.sh a)).set j (.sh b))
  | _, _ => none
def U0 (i j k : Nat) : D → Am → Option Am
  | .tuple [a, b, c], ρ => some (((ρ.set i (.sh a)).set j (.sh b)).set k (.sh c))
  | _, _ => none
section
variable {X : Cx} {K : Frag} {pos : Pos}
theorem Lg.set {H0 : Hp} {O0 : List Addr} {G : Hp} {σ : St} {H : Hp} {ρ : Am} {v : V} {d : D} {vs : List V} {ds : List D} (t : Lg K H0 O0 G σ H ρ (v :: vs) (d :: ds)) (i : Nat) : Lg K H0 O0 G (σ.set i (some v)) H (ρ.set i (.sh d)) vs ds := by
  obtain ⟨O, s0, n, nd, g, sl, r⟩ := t.ex
  cases r with
  | cons r rs =>
    obtain ⟨O', hs, sl'⟩ := sl.O7 r i
    have sub : ∀ b, b ∈ O0 ++ O' → b ∈ O0 ++ O := fun b hb => (List.mem_append.mp hb).elim (fun z => Cy z) fun z => Bj (hs.subset z)
    exact ⟨O', s0, fun a ha => n a (hs.subset ha), hs.nodup nd, g.trans (DQ sub), sl'.mono (DQ sub) fun _ _ _ e => e, rs.mono (DQ sub)⟩
theorem Lg.str {H0 : Hp} {O0 : List Addr} {G : Hp} {σ : St} {H : Hp} {ρ : Am} {vs : List V} {ds : List D} (t : Lg K H0 O0 G σ H ρ vs ds) : By K H0 O0 G σ H ρ := by
  obtain ⟨O, s0, n, nd, g, sl, r⟩ := t.ex
  exact ⟨O, s0, n, nd, g, sl⟩
theorem GQ.parts {H0 : Hp} {O0 : List Addr} {G : Hp} {σ : St} {H : Hp} {ρ : Am} {v : V} {ds : List D} (t : GQ K H0 O0 G σ H ρ v (.sh (.tuple ds))) : ∃ a xs, v = .ref a ∧ Dt K H a xs ∧ Lg K H0 O0 G σ H ρ xs ds := by
  obtain ⟨O, P, s0, n, nd, g, sl, rfl, r⟩ := t.ex
  cases r with
  | tup q r' => exact ⟨_, _, rfl, Dj.K3 q, O, s0, n, nd, g, sl, r'⟩
theorem Lg.len {H0 : Hp} {O0 : List Addr} {G : Hp} {σ : St} {H : Hp} {ρ : Am} {vs : List V} {ds : List D} (t : Lg K H0 O0 G σ H ρ vs ds) : vs.length = ds.length := by
  obtain ⟨O, s0, n, nd, g, sl, r⟩ := t.ex
  exact r.length
theorem Wv {i : Nat} {x : Str} (hN : X.N.Nodup) (hi : X.N[i]? = some x) (hx : Loc X.env.scope x) (hf : X.fn x = true ∨ X.env.scope.names.lookup x = some .local := by first | exact .inl rfl | exact .inr rfl | assumption) : Pz X K (.Name x pos) (FN i) (Kf i) := ⟨Jm hN hi hx hf, by
  intro H0 O0 G σ H ρ v d ρ' Q t hb q
  cases hb
  exact q _ (t.set i)⟩
theorem gK {i j : Nat} {x y : Str} {p1 p2 : Pos} {k : Nat} (hK : X.K = K) (hc : X.calm = true) (hN : X.N.Nodup) (hi : X.N[i]? = some x) (hx : Loc X.env.scope x) (hj : X.N[j]? = some y) (hy : Loc X.env.scope y) (hf : X.fn x = true ∨ X.env.scope.names.lookup x = some .local := by first | exact .inl rfl | exact .inr rfl | assumption) (hf2 : X.fn y = true ∨ X.env.scope.names.lookup y = some .local := by first | exact .inl rfl | exact .inr rfl | assumption) (h1 : (assignEach [.Name x p1, .Name y p2] X.env).map (·.2) = assign (.Name x p1) X.env :: (assignEach [.Name y p2] X.env).map (·.2) := by rfl) (h2 : (assignEach [.Name y p2] X.env).map (·.2) = assign (.Name y p2) X.env :: (assignEach [] X.env).map (·.2) := by rfl) (hn : (assignEach [.Name x p1, .Name y p2] X.env).length = 2 := by rfl) (hst : (assignEach [.Name x p1, .Name y p2] X.env).findIdx? (·.1) = none := by rfl) :
    Pz X K (.Tuple [.Name x p1, .Name y p2] k pos) (Vd K 2 (Jg (FN i) (Jg (FN j) TF))) (Ha i j) := ⟨by
  subst hK
  exact cG hc (QV (Jm hN hi hx hf) (QV (Jm hN hj hy hf2) aW h2) h1) hn hst, by
  intro H0 O0 G σ H ρ v d ρ' Q t hb q
  unfold Ha at hb
  split at hb
  · rename_i a b _
    cases hb
    obtain ⟨p, xs, rfl, hq, ts⟩ := t.parts
    have hl := ts.len
    match xs, hl with
    | [v1, v2], _ => exact ⟨p, _, rfl, hq, rfl, _, _, rfl, _, _, rfl, rfl, q _ ((ts.set i).set j).str⟩
  · cases hb⟩
theorem uJ {i j l : Nat} {x y z : Str} {p1 p2 p3 : Pos} {k : Nat} (hK : X.K = K) (hc : X.calm = true) (hN : X.N.Nodup) (hi : X.N[i]? = some x) (hx : Loc X.env.scope x) (hj : X.N[j]? = some y) (hy : Loc X.env.scope y) (hl : X.N[l]? = some z) (hz : Loc X.env.scope z) (hf : X.fn x = true ∨ X.env.scope.names.lookup x = some .local := by first | exact .inl rfl | exact .inr rfl | assumption) (hf2 : X.fn y = true ∨ X.env.scope.names.lookup y = some .local := by first | exact .inl rfl | exact .inr rfl | assumption) (hf3 : X.fn z = true ∨ X.env.scope.names.lookup z = some .local := by first | exact .inl rfl | exact .inr rfl | assumption) (h1 : (assignEach [.Name x p1, .Name y p2, .Name z p3] X.env).map (·.2) = assign (.Name x p1) X.env :: (assignEach [.Name y p2, .Name z p3] X.env).map (·.2) := by rfl) (h2 : (assignEach [.Name y p2, .Name z p3] X.env).map (·.2) = assign (.Name y p2) X.env :: (assignEach [.Name z p3] X.env).map (·.2) := by rfl) (h3 : (assignEach [.Name z p3] X.env).map (·.2) = assign (.Name z p3) X.env :: (assignEach [] X.env).map (·.2) := by rfl) (hn : (assignEach [.Name x p1, .Name y p2, .Name z p3] X.env).length = 3 := by rfl) (hst : (assignEach [.Name x p1, .Name y p2, .Name z p3] X.env).findIdx? (·.1) = none := by rfl) :
    Pz X K (.Tuple [.Name x p1, .Name y p2, .Name z p3] k pos) (Vd K 3 (Jg (FN i) (Jg (FN j) (Jg (FN l) TF)))) (U0 i j l) := ⟨by
  subst hK
  exact cG hc (QV (Jm hN hi hx hf) (QV (Jm hN hj hy hf2) (QV (Jm hN hl hz hf3) aW h3) h2) h1) hn hst, by
  intro H0 O0 G σ H ρ v d ρ' Q t hb q
  unfold U0 at hb
  split at hb
  · rename_i a b c _
    cases hb
    obtain ⟨p, xs, rfl, hq, ts⟩ := t.parts
    have hl := ts.len
    match xs, hl with
    | [v1, v2, v3], _ => exact ⟨p, _, rfl, hq, rfl, _, _, rfl, _, _, rfl, _, _, rfl, rfl, q _ (((ts.set i).set j).set l).str⟩
  · cases hb⟩
def Qd (bs : D → Am → Option Am) (vf : Am → Option Sl) : Ao := fun ρ => (vf ρ).bind fun s => (Li s).bind fun d => (bs d ρ).bind fun ρ' => some (.nx ρ')
theorem XH {s : Sl} {d : D} (h : Li s = some d) : s = .sh d := by
  cases s with
  | sh e => cases h; rfl
  | _ => cases h
theorem cM {s : Sl} {d : List D} (h : QG s = some d) : s = .ow d := by
  cases s with
  | ow e => cases h; rfl
  | _ => cases h
theorem AJV {tg e : Expr} {te : TE} {g : TG} {bs : D → Am → Option Am} {vf : Am → Option Sl} (he : PE X e te) (pv : Ga K te vf) (hg : Pz X K tg g bs) (hs : swapsWithSole [tg] e pos.line X.env = pure false := by rfl) (hw : swappedStores [tg] e X.env = pure none := by rfl)
    (h1 : (assignEach [tg] X.env).map (·.2) = [assign tg X.env] := by rfl) : JS X K (.Assign [tg] e pos) (Ff te g) (Qd bs vf) := ⟨Wt he hg.pe hs hw h1, by
  intro H0 O0 G σ H ρ o E ok s hf q
  obtain ⟨sl, e1, hf⟩ := Al hf
  obtain ⟨d, e2, hf⟩ := Al hf
  obtain ⟨ρ', e3, hf⟩ := Al hf
  cases hf
  cases XH e2
  exact pv H0 O0 G σ H ρ _ _ ok s e1 fun v H' s' sv => hg.pu H0 O0 G σ H' ρ v d ρ' _ sv e3 fun σ' t => q σ' H' t⟩
theorem pY {tg e : Expr} {te : TE} {f : PF} {g : TG} {bs : D → Am → Option Am} (he : JE X K e te f) (hg : Pz X K tg g bs) (hs : swapsWithSole [tg] e pos.line X.env = pure false := by rfl) (hw : swappedStores [tg] e X.env = pure none := by rfl)
    (h1 : (assignEach [tg] X.env).map (·.2) = [assign tg X.env] := by rfl) : JS X K (.Assign [tg] e pos) (Ff te g) (Qd bs (vS f)) := AJV he.pe (NK he.pu) hg hs hw h1
def Ea (bs : D → Am → Option Am) (F : Ao) : List D → Am → Option Out
  | [], ρ => some (.nx ρ)
  | d :: ds, ρ => (bs d ρ).bind fun ρ1 => (F ρ1).bind fun o => match o with
    | .nx ρ' => Ea bs F ds ρ'
    | .ct ρ' => Ea bs F ds ρ'
    | .bk ρ' => some (.nx ρ')
    | .rt d => some (.rt d)
    | .rl d => some (.rl d)
    | .rn d => some (.rn d)
    | .rp d e => some (.rp d e)
    | .ro d e => some (.ro d e)
def J2 (fi : BW) (bs : D → Am → Option Am) (F : Ao) : Ao := fun ρ => (fi (masked ρ)).bind fun items => Ea bs F items ρ
theorem By.ghost {H0 : Hp} {O0 : List Addr} {G G1 : Hp} {σ : St} {H : Hp} {ρ : Am} (t : By K H0 O0 G1 σ H ρ) (g : Ak G G1) : By K H0 O0 G σ H ρ := by
  obtain ⟨O, s0, n, nd, g1, sl⟩ := t.ex
  exact ⟨O, s0, n, nd, g.trans g1, sl⟩
theorem ADj {wi : TI} {g : TG} {tb : TS} {fi : BW} {bs : D → Am → Option Am} {F : Ao} (hi : Wi K wi fi) (hg : aL K g bs) (hb : Jo K tb F) : Jo K (YJ wi g tb) (J2 fi bs F) := by
  intro H0 O0 G σ H ρ o E ok s hf q
  obtain ⟨items, e1, hf⟩ := Al hf
  obtain ⟨O, s0, n, nd, gg, sl⟩ := s.ex
  refine hi (O0 ++ O) σ H (masked ρ) items _ (HW ok s0 sl) sl.mask e1 fun J H1 s1 it => ?_
  have t1 : By K H0 O0 (Ai (O0 ++ O) H1) σ H1 ρ := ⟨O, s0.trans s1, n, nd, Ak.refl _, sl.mono (Ds s1) fun a _ o e => s1 a o e⟩
  have gG : Ak G (Ai (O0 ++ O) H1) := gg.trans (Ds s1)
  refine ⟨fun i m σ H => m = items.length - i ∧ i ≤ items.length ∧ ∃ ρi, By K H0 O0 (Ai (O0 ++ O) H1) σ H ρi ∧ Ea bs F (items.drop i) ρi = some o, ⟨items.length, by simp, Nat.zero_le _, ρ, t1, by simpa using hf⟩, ?_⟩
  rintro i m σ' H' ⟨rfl, hil, ρi, ti, hfi⟩
  obtain ⟨O', s0', n', nd', g', sl'⟩ := ti.ex
  have I := it (O0 ++ O') H' (HW ok s0' sl') g'
  by_cases hlt : i < items.length
  · refine .inr ⟨I.1 i hlt, fun σ' H' => ∃ ρ', By K H0 O0 (Ai (O0 ++ O) H1) σ' H' ρ' ∧ Ea bs F (items.drop (i + 1)) ρ' = some o, fun σ2 H2 ⟨ρ', t', h'⟩ => ⟨items.length - (i + 1), by omega, rfl, hlt, ρ', t', h'⟩, fun x H'' y => ?_⟩
    obtain ⟨d, ed, s'', rd⟩ := I.2.1 i x H'' hlt y
    have hdrop : items.drop i = d :: items.drop (i + 1) := by
      rw [List.drop_eq_getElem_cons hlt]
      congr 1
      exact Option.some.inj ((List.getElem?_eq_getElem hlt).symm.trans ed)
    rw [hdrop] at hfi
    obtain ⟨ρ1, eb, hfi⟩ := Al hfi
    obtain ⟨o1, eo, hfi⟩ := Al hfi
    have sv : GQ K H0 O0 (Ai (O0 ++ O) H1) σ' H'' ρi x (.sh d) := ⟨O', [], s0'.trans s'', n', nd', g'.trans (Ds s''), sl'.mono (Ds s'') fun a _ o e => s'' a o e, rfl, rd⟩
    refine hg H0 O0 _ σ' H'' ρi x d ρ1 _ sv eb fun σ2 t2 => ?_
    refine hb H0 O0 _ σ2 H'' ρ1 o1 _ ok t2 eo ?_
    cases o1 with
    | nx ρ' => exact fun σ3 H3 t3 => ⟨ρ', t3, hfi⟩
    | ct ρ' => exact fun σ3 H3 t3 => ⟨ρ', t3, hfi⟩
    | bk ρ' => cases hfi; exact fun σ3 H3 t3 => q σ3 H3 (t3.ghost gG)
    | rt d => cases hfi; exact q
    | rl d => cases hfi; exact q
    | rn d => cases hfi; exact q
    | rp d e => cases hfi; exact q
    | ro d e => cases hfi; exact q
  · have e : i = items.length := by omega
    subst e
    rw [List.drop_length] at hfi
    cases hfi
    exact .inl ⟨I.2.2, q σ' H' (ti.ghost gG)⟩
theorem RK {tg iter : Expr} {body : List Stmt} {wi : TI} {g : TG} {tb : TS} {fi : BW} {bs : D → Am → Option Am} {F : Ao} (hp : PassesOwn (model X.prog X.w) X.A X.env X.xe) (hc : X.calm = true) (hi : JI X K tg iter wi fi) (hg : Pz X K tg g bs) (hb : Gu X K body tb F) (hs : ∀ x, foldedSetIterable iter X.env x = pure x := by intro _; rfl) : JS X K (.For tg iter body [] pos) (YJ wi g tb) (J2 fi bs F) := ⟨qN hp hc hi.pe hg.pe hb.pe hs, ADj hi.pu hg.pu hb.pu⟩
def JV (c : PB) (F : Ao) : Nat → Ao
  | 0 => fun _ => none
  | n + 1 => fun ρ => (c (full ρ)).bind fun b => if b = true then (F ρ).bind fun o => match o with
      | .nx ρ' => JV c F n ρ'
      | .ct ρ' => JV c F n ρ'
      | .bk ρ' => some (.nx ρ')
      | .rt d => some (.rt d)
      | .rl d => some (.rl d)
      | .rn d => some (.rn d)
      | .rp d e => some (.rp d e)
      | .ro d e => some (.ro d e)
    else some (.nx ρ)
theorem AOC {c : TT} {tb : TS} {pc : PB} {F : Ao} (n : Nat) (hc : M8 K c pc) (hb : Jo K tb F) : Jo K (Y6 c tb) (JV pc F n) := by
  intro H0 O0 G σ H ρ o E ok s hf q
  refine ⟨fun m σ H => ∃ ρ, By K H0 O0 G σ H ρ ∧ JV pc F m ρ = some o, ⟨n, ρ, s, hf⟩, ?_⟩
  rintro m σ' H' ⟨ρ', t, hf⟩
  cases m with
  | zero => cases hf
  | succ m =>
    obtain ⟨b, e1, hf⟩ := Al hf
    have ⟨o1, e2⟩ := t.Hj ok
    refine hc O0 σ' H' (full ρ') b _ o1 e2 e1 fun H1 s1 => ?_
    have t1 := t.grow s1
    cases b with
    | true =>
      rw [if_pos rfl] at hf ⊢
      obtain ⟨o2, eo, hf⟩ := Al hf
      refine ⟨fun σ2 H2 => ∃ ρ2, By K H0 O0 G σ2 H2 ρ2 ∧ JV pc F m ρ2 = some o, fun σ2 H2 z => ⟨m, Nat.lt_succ_self m, z⟩, ?_⟩
      refine hb H0 O0 G σ' H1 ρ' o2 _ ok t1 eo ?_
      cases o2 with
      | nx ρ2 => exact fun σ3 H3 t3 => ⟨ρ2, t3, hf⟩
      | ct ρ2 => exact fun σ3 H3 t3 => ⟨ρ2, t3, hf⟩
      | bk ρ2 => cases hf; exact fun σ3 H3 t3 => q σ3 H3 t3
      | rt d => cases hf; exact q
      | rl d => cases hf; exact q
      | rn d => cases hf; exact q
      | rp d e => cases hf; exact q
      | ro d e => cases hf; exact q
    | false =>
      rw [if_neg Bool.false_ne_true] at hf ⊢
      cases hf
      exact q σ' H1 t1
theorem wK {c : Expr} {body : List Stmt} {tc : TT} {tb : TS} {pc : PB} {F : Ao} (n : Nat) (hp : PassesOwn (model X.prog X.w) X.A X.env X.xe) (hc : JT X K c tc pc) (hb : Gu X K body tb F) : JS X K (.While c body [] pos) (Y6 tc tb) (JV pc F n) := ⟨AGH hp hc.pe hb.pe, AOC n hc.pu hb.pu⟩
theorem By.write {H0 : Hp} {O0 : List Addr} {G : Hp} {σ : St} {H : Hp} {ρ : Am} {v : V} {d : D} {i : Nat} {ds : List D} (t : GQ K H0 O0 G σ H ρ v (.sh d)) (hi : ρ[i]? = some (.ow ds)) :
    ∃ a xs, σ[i]? = some (some (.ref a)) ∧ H a = some (.lst xs) ∧ xs.length = ds.length ∧ By K H0 O0 G σ (upd H a (.lst (xs ++ [v]))) (ρ.set i (.ow (ds ++ [d]))) ∧ (∀ j, By K H0 O0 G σ (upd H a (.lst (xs.set j v))) (ρ.set i (.ow (ds.set j d)))) := by
  obtain ⟨O, P, s0, n, nd, g, sl, rfl, r⟩ := t.ex
  obtain ⟨a, xs, h1, h2, h3, h4⟩ := sl.Gm hi
  have s0' : ∀ ys, Ak H0 (upd H a (.lst ys)) := fun ys b o e => by
    rw [Ba (De e (n a h2))]
    exact s0 b o e
  have hh : ∀ ys, Ai (O0 ++ ([] ++ O)) (upd H a (.lst ys)) = Ai (O0 ++ ([] ++ O)) H := fun ys => Ih (by simp [h2])
  refine ⟨a, xs, h1, h3, h4.length, ⟨O, s0' _, n, nd, ?_, ?_⟩, fun j => ⟨O, s0' _, n, nd, ?_, ?_⟩⟩
  · have := hh (xs ++ [v]); simp only [List.nil_append] at this g ⊢; rw [this]; exact g
  · have := sl.write (h4.append (.cons r .nil)) nd hi h1; have e := hh (xs ++ [v]); simp only [List.nil_append] at this e ⊢; rw [e]; exact this
  · have := hh (xs.set j v); simp only [List.nil_append] at this g ⊢; rw [this]; exact g
  · have := sl.write (h4.set r j) nd hi h1; have e := hh (xs.set j v); simp only [List.nil_append] at this e ⊢; rw [e]; exact this
theorem By.Gm {H0 : Hp} {O0 : List Addr} {G : Hp} {σ : St} {H : Hp} {ρ : Am} {i : Nat} {ds : List D} (t : By K H0 O0 G σ H ρ) (hi : ρ[i]? = some (.ow ds)) : ∃ a xs, σ[i]? = some (some (.ref a)) ∧ H a = some (.lst xs) ∧ xs.length = ds.length := by
  obtain ⟨O, s0, n, nd, g, sl⟩ := t.ex
  obtain ⟨a, xs, h1, h2, h3, h4⟩ := sl.Gm hi
  exact ⟨a, xs, h1, h3, h4.length⟩
theorem pG (i : Nat) {x : Str} {e : Expr} {te : TE} {vf : Am → Option Sl} {p apos cpos : Pos} (he : PE X e te) (pv : Ga K te vf) (hK : X.K = K) (hN : X.N[i]? = some x := by rfl) (hv : Fx X.env.scope x := by first | exact Or.inl rfl | exact Or.inr (Or.inl rfl) | exact Or.inr (Or.inr rfl)) (hd : (x == ("__debug__" : Str)) = false := by decide)
    (hcd : (x == ("__classdict__" : Str)) = false := by decide) (hbase : attributeBase (.Name x p) "append" X.env (eval (.Name x p) X.env) = eval (.Name x p) X.env := by rfl)
    (hfew : ((backTo cpos (starEach [e] X.env)).all (fun x => !x.1) && (backToKw cpos (keywordEach [] X.env)).all (fun x => x.1.isSome)
      && decide ([e].length + ([] : List Keyword).length + (if ([] : List Keyword).isEmpty then 0 else 1) < 30)) = true := by rfl)
    (hline : (apos.endLine == cpos.line) = true := by rfl) (hs : starEach [e] X.env = (false, eval e X.env) :: starEach [] X.env := by rfl) (hplain : (backTo cpos (starEach [] X.env)).any (·.1) = false := by rfl)
    (hs2 : swapsWith (.Call (.Attribute (.Name x p) "append" apos) [e] [] cpos) none pos.line X.env = pure false := by rfl) :
    JS X K (.Expr (.Call (.Attribute (.Name x p) "append" apos) [e] [] cpos) pos) (Mi (Rn K "list" Vf (Dm i) (GD te Gd))) (QC i vf) := ⟨by
  subst hK
  exact UT (YT PySem.F.plainAttrs_list PySem.F.slot_list_append PySem.F.type_list_append fH (JH hN hv hd hcd) (Eo he HY hs) hbase hfew hline hs hplain) hs2, by
  intro H0 O0 G σ H ρ o E ok s hf q
  obtain ⟨sl, e1, hf⟩ := Al hf
  obtain ⟨d, e2, hf⟩ := Al hf
  obtain ⟨sl2, e3, hf⟩ := Al hf
  obtain ⟨ds, e4, hf⟩ := Al hf
  rw [XH e2] at e1
  rw [cM e4] at e3
  by_cases hc : fits ds.length = true
  · rw [if_pos hc] at hf
    cases hf
    obtain ⟨a, xs, h1, h2, h3⟩ := s.Gm e3
    refine ⟨_, h1, .inl ⟨rfl, _, Bg.of h2⟩, ?_⟩
    refine pv H0 O0 G σ H ρ _ _ ok s e1 fun v H' s' sv => ?_
    obtain ⟨a', xs', h1', h2', h3', t', _⟩ := By.write sv e3
    rw [h1] at h1'
    cases h1'
    exact ⟨a, xs', v, rfl, rfl, h2', by rw [h3']; exact of_decide_eq_true hc, q σ _ t'⟩
  · rw [if_neg hc] at hf
    cases hf⟩
theorem w6 (i : Nat) {x : Str} {e ix : Expr} {te ti : TE} {fi : PF} {vf : Am → Option Sl} {p spos : Pos} (he : PE X e te) (pv : Ga K te vf) (hi : JE X K ix ti fi) (hN : X.N[i]? = some x := by rfl) (hv : Fx X.env.scope x := by first | exact Or.inl rfl | exact Or.inr (Or.inl rfl) | exact Or.inr (Or.inr rfl)) (hd : (x == ("__debug__" : Str)) = false := by decide)
    (hcd : (x == ("__classdict__" : Str)) = false := by decide)
    (ha : ∀ v, assign (.Subscript (.Name x p) ix spos) X.env v = (do
      let ov ← holding [v] (eval (.Name x p) X.env)
      let iv ← holding [v, ov] (eval ix X.env)
      standAt spos
      holding [v, ov, iv] (setItem ov iv v)
      release [v, ov, iv] []) := by intro _; rfl)
    (hs : swapsWithSole [.Subscript (.Name x p) ix spos] e pos.line X.env = pure false := by rfl) (hw : swappedStores [.Subscript (.Name x p) ix spos] e X.env = pure none := by rfl)
    (h1 : (assignEach [.Subscript (.Name x p) ix spos] X.env).map (·.2) = [assign (.Subscript (.Name x p) ix spos) X.env] := by rfl) :
    JS X K (.Assign [.Subscript (.Name x p) ix spos] e pos) (Ff te (K9 (Dm i) ti Ka)) (Jh i fi vf) := ⟨Wt he (Yg (JH hN hv hd hcd) hi.pe set_list ha) hs hw h1, by
  intro H0 O0 G σ H ρ o E ok s hf q
  obtain ⟨sl, e1, hf⟩ := Al hf
  obtain ⟨d, e2, hf⟩ := Al hf
  obtain ⟨kd, e5, hf⟩ := Al hf
  obtain ⟨k, e6, hf⟩ := Al hf
  obtain ⟨sl2, e3, hf⟩ := Al hf
  obtain ⟨ds, e4, hf⟩ := Al hf
  obtain ⟨j, e7, hf⟩ := Al hf
  rw [XH e2] at e1
  rw [cM e4] at e3
  cases hf
  refine pv H0 O0 G σ H ρ _ _ ok s e1 fun v H' s' sv => ?_
  obtain ⟨a, xs, h1, h2, h3⟩ := sv.str.Gm e3
  refine ⟨_, h1, ?_⟩
  refine sv.str.M7 hi.pu ok e5 fun vi H2 s2 t2 ri => ?_
  obtain ⟨a', xs', h1', h2', h3', _, t'⟩ := By.write (sv.grow s2) e3
  rw [h1] at h1'
  cases h1'
  cases ri with
  | int m => cases e6; exact ⟨a, xs', _, j, rfl, rfl, h2', by rw [h3']; exact e7, q σ _ (t' j)⟩
  | _ => cases e6⟩
end
def GX (m : Nat) (ds : List D) : Am := ds.map .sh ++ List.replicate (m - ds.length) .no
def outD : Out → Option D
  | .rt d => some d
  | .rl ds => some (.list ds)
  | .rn dss => some (.list (dss.map .list))
  | .rp ds d => some (.tuple [.list ds, d])
  | .nx _ => some .none
  | _ => none
def AJD : Out → Option (List D)
  | .rl ds => some ds
  | _ => none
def BZ (n m : Nat) (F : Ao) : List D → Option D := fun ds => if ds.length = n then (F (GX m ds)).bind outD else none
def Dh (n m : Nat) (F : Ao) : List D → Option (List D) := fun ds => if ds.length = n then (F (GX m ds)).bind AJD else none
theorem Bs (n m : Nat) (F : Ao) : J4 n (BZ n m F) := fun ds a h => by
  unfold BZ at h
  by_cases hc : ds.length = n
  · exact hc
  · rw [if_neg hc] at h; cases h
theorem Fv (n m : Nat) (F : Ao) : J4 n (Dh n m F) := fun ds a h => by
  unfold Dh at h
  by_cases hc : ds.length = n
  · exact hc
  · rw [if_neg hc] at h; cases h
section
variable {P : Program} {w : World} {K : Frag} {mg : Str → Option Value} {base : Heap}
theorem zE {H : Hp} {O : List Addr} {vs : List V} {ds : List D} (r : BL K (Ai O H) vs ds) (k : Nat) : Slots K (Ai O H) H (vs.map some ++ List.replicate k none) (ds.map .sh ++ List.replicate k .no) [] := by
  induction r using BL.rec (motive_1 := fun _ _ _ => True) with
  | non => trivial
  | bl => trivial
  | int => trivial
  | str => trivial
  | lst => trivial
  | tup => trivial
  | dic => trivial
  | obj => trivial
  | nil =>
    simp only [List.map_nil, List.nil_append]
    induction k with
    | zero => exact .nil
    | succ k ih => exact .no ih
  | cons q _ _ ih => exact .sh q ih
theorem RP {H : Hp} {O : List Addr} {vs : List V} {ds : List D} (r : BL K (Ai O H) vs ds) (N : List Str) : By K H O (Ai O H) (start N vs) H (GX N.length ds) := by
  refine ⟨[], Ak.refl _, (fun a h => by cases h), List.nodup_nil, ?_, ?_⟩
  · rw [List.append_nil]; exact Ak.refl _
  · rw [List.append_nil]
    unfold start GX
    rw [r.length]
    exact zE r _
theorem Def.DP {x : Str} {st : Stmt} {N ps : List Str} {k n m : Nat} {F : Ao} {fn : List D → Option D} (hfn : fn = BZ n m F) (D : Def K mg x st ps) (S : Bq N ps (Av st)) (hn : ps.length = n) (hm : N.length = m) (hb : ∀ (f : Addr) (cdv : Value) (A : Around) (outer : List Env) (s : Shared) (H : Hp) (E : XK), Ck k (A.deeper (envOfC x (Av st) s.heap.objs.size f cdv)) →
      ∃ t, Gu (Fo Gk P w K mg base N x (Av st) f cdv A outer s H E).Fe K (Bk st) t F) : Callee P w K mg base (k + 1) x ps (Ay K n fn) := by
  subst hfn hm
  refine D.ok S (fun vs H Q E h => by rw [h.1, hn]) fun f cdv A outer s H vs Q E hr h => ?_
  obtain ⟨t, j⟩ := hb f cdv A outer s H E hr
  refine ⟨t, j.pe, ?_⟩
  obtain ⟨hl, O, ds, d, ok, r, hf, q⟩ := h
  have hl2 : ds.length = n := by rw [← r.length]; exact hl
  unfold BZ at hf
  rw [if_pos hl2] at hf
  obtain ⟨o, e1, hf⟩ := Al hf
  refine j.pu H O (Ai O H) _ H _ o _ ok (RP r N) e1 ?_
  cases o with
  | nx ρ => cases hf; exact fun σ' H' t' => q .non H' t'.same .non
  | rt d' => cases hf; exact fun v H' s' r' => q v H' s' r'
  | rl es =>
    cases hf
    refine fun a xs H' s' hn' ha r' => q (.ref a) H' s' ?_
    exact .lst (Bg.of (by rw [Cj (ok.fresh hn')]; exact ha)) (r'.mono (DQ fun b hb => BK hb))
  | rn ess =>
    cases hf
    refine fun a ps H' s' nd' hn' ha r' => q (.ref a) H' s' ?_
    refine .lst (Bg.of (by rw [Cj (ok.fresh (hn' a Bp))]; exact ha)) (r'.full (DQ fun b hb => Bj hb) fun b hb o e => ?_)
    rw [Cj (ok.fresh (hn' b (BK hb)))]
    exact e
  | rp es d2 =>
    cases hf
    refine fun p a xs v H' s' ha0 hp0 ha hp r' rv => q (.ref p) H' s' ?_
    have sb : Ak (Ai (a :: O) H') (Ai O H') := DQ fun b hb => BK hb
    exact .tup (Dt.of (by rw [Cj (ok.fresh hp0)]; exact hp)) (.cons (.lst (Bg.of (by rw [Cj (ok.fresh ha0)]; exact ha)) (r'.mono sb)) (.cons (rv.mono sb) .nil))
  | ro d2 ρ2 => cases hf
  | bk ρ => cases hf
  | ct ρ => cases hf
theorem Def.Hl {x : Str} {st : Stmt} {N ps : List Str} {k n m : Nat} {F : Ao} {fn : List D → Option (List D)} (hfn : fn = Dh n m F) (D : Def K mg x st ps) (S : Bq N ps (Av st)) (hn : ps.length = n) (hm : N.length = m) (hb : ∀ (f : Addr) (cdv : Value) (A : Around) (outer : List Env) (s : Shared) (H : Hp) (E : XK), Ck k (A.deeper (envOfC x (Av st) s.heap.objs.size f cdv)) →
      ∃ t, Gu (Fo Gk P w K mg base N x (Av st) f cdv A outer s H E).Fe K (Bk st) t F) : Callee P w K mg base (k + 1) x ps (CT K n fn) := by
  subst hfn hm
  refine D.ok S (fun vs H Q E h => by rw [h.1, hn]) fun f cdv A outer s H vs Q E hr h => ?_
  obtain ⟨t, j⟩ := hb f cdv A outer s H E hr
  refine ⟨t, j.pe, ?_⟩
  obtain ⟨hl, O, ds, d, ok, r, hf, q⟩ := h
  have hl2 : ds.length = n := by rw [← r.length]; exact hl
  unfold Dh at hf
  rw [if_pos hl2] at hf
  obtain ⟨o, e1, hf⟩ := Al hf
  refine j.pu H O (Ai O H) _ H _ o _ ok (RP r N) e1 ?_
  cases o with
  | rl es => cases hf; exact fun a xs H' s' hn' ha r' => q a xs H' s' hn' ha r'
  | rn ess => cases hf
  | rp _ _ => cases hf
  | ro d e => cases hf
  | nx ρ => cases hf
  | rt d' => cases hf
  | bk ρ => cases hf
  | ct ρ => cases hf
end
end L2
namespace L2
open PySem PySem.Spec PyProof.Rows
section
variable {X : Cx} {K : Frag}
def RC (f : BW) : Am → Option Sl := fun ρ => (f (full ρ)).bind fun ds => if Fp ds = true then some (.sh (.list ds)) else none
theorem AFS {te : TE} {fl : BW} (h : LQ K te fl) : Ga K te (RC fl) := by
  intro H0 O0 G σ H ρ s Q ok t hf q
  obtain ⟨d, e1, hf⟩ := Al hf
  by_cases hc : Fp d = true
  · rw [if_pos hc] at hf
    cases hf
    have ⟨o1, e2⟩ := t.Hj ok
    obtain ⟨O, s0, n, nd, g, sl⟩ := t.ex
    have okA := HW ok s0 sl
    refine h O0 σ H (full ρ) d Q o1 e2 e1 fun a xs H' s' hn ha r => ?_
    have sl' := sl.mono (Ds (O := O0 ++ O) s') fun b _ o e => s' b o e
    have na : a ∉ O0 ++ O := okA.fresh hn
    refine q (.ref a) H' s' ⟨O, [], s0.trans s', n, nd, g.trans (Ds s'), sl', rfl, .lst (Bg.of (by rw [show O0 ++ ([] ++ O) = O0 ++ O from rfl, Cj na]; exact ha)) ?_⟩
    have := Vv (K := K) (O0 := a :: O0) (O := O) sl'.mem r hc
    exact this.mono (DQ fun b hb => BK hb)
  · rw [if_neg hc] at hf
    cases hf
end
section
variable {X : Cx} {K : Frag} {tg elt iter : Expr} {ifs : List Expr} {scope : Scope} {wi : TI} {g : TG} {tc : TT} {te : TE} {fi : BW} {bd : D → Bc → Option Bc} {pt : PB} {fe : PF}
theorem RX {pos spos py : Pos} {i : Nat} {y : Str} (vk : BW → Am → Option Sl) (hvk : ∀ {te : TE} {fl : BW}, LQ K te fl → Ga K te (vk fl)) (own : List Str) (fv : List (Nat × Str)) (hN : X.N.Nodup) (hy : X.N[i]? = some y) (hx : Loc X.env.scope y) (hc : X.calm = true) (hi : JI X K tg iter wi fi) (fo : Je X scope fv) (gk : Mf own.length g) (bg : ∀ fp pins s H, JG (Dn X (own ++ fv.map (·.2)) scope (En X.env scope.names []) fp pins s H) K tg g bd) (bt : ∀ fp pins s H, VL (Dn X (own ++ fv.map (·.2)) scope (En X.env scope.names []) fp pins s H) K ifs tc pt) (be : ∀ fp pins s H, JE (Dn X (own ++ fv.map (·.2)) scope (En X.env scope.names []) fp pins s H) K elt te fe) (kind : scope.kind = .function) (cell : ∀ y ∈ scope.names, y.2 ≠ .cell) (names : ∀ x ∈ scope.names, x.2 = .local → scope.names.lookup x.1 = some .local) (free : freeOk X scope = true) (hsw : swapsWith (.ListComp elt [⟨tg, iter, ifs, 0⟩] scope pos) (some (.Name y py)) spos.line X.env = pure true) (hs : ∀ x, foldedSetIterable iter X.env x = pure x := by intro _; rfl) (hf : X.fn y = true ∨ X.env.scope.names.lookup y = some .local := by first | exact Or.inl rfl | exact Or.inr rfl) :
    JS X K (.Assign [.Name y py] (.ListComp elt [⟨tg, iter, ifs, 0⟩] scope pos) spos) (Ff (Mu wi g tc te own.length fv) (FN i)) (Bb i (vk (Ca fi bd pt fe own.length (fv.map (·.1))))) :=
  YM (iI own fv hN hy hx hc hi.pe fo gk (fun fp pins s H => (bg fp pins s H).pe) (fun fp pins s H => (bt fp pins s H).pe) (fun fp pins s H => (be fp pins s H).pe) kind cell names free hsw hs hf)
    (hvk (pR hi.pu (bg [] [] X.s₀ X.H₀).pu (bt [] [] X.s₀ X.H₀).pu (be [] [] X.s₀ X.H₀).pu _ _))
def Ho (f : BW) : Am → Option Sl := vS (BV f)
theorem Ws {te : TE} {fl : BW} (h : LQ K te fl) : Ga K te (Ho fl) := by
  refine NK ?_
  intro O σ H ρ d Q ok er hf q
  have hf' : (fl ρ).map PyData.list = some d := hf
  cases e1 : fl ρ with
  | none => rw [e1] at hf'; cases hf'
  | some ds =>
    rw [e1] at hf'
    cases hf'
    refine h O σ H ρ ds Q ok er e1 fun a xs H' s hn ha r => q _ H' s ?_
    have na : a ∉ O := ok.fresh hn
    exact .lst (Bg.of (by rw [Cj na]; exact ha)) (r.mono (DQ fun b hb => BK hb))
end
section
variable {X : Cx} {K : Frag} {pos : Pos}
theorem j8 (i : Nat) {x : Str} {e : Expr} {te : TE} {f : PF} {p apos cpos : Pos} (he : JE X K e te f) (hK : X.K = K) (hN : X.N[i]? = some x := by rfl) (hv : Fx X.env.scope x := by first | exact Or.inl rfl | exact Or.inr (Or.inl rfl) | exact Or.inr (Or.inr rfl)) (hd : (x == ("__debug__" : Str)) = false := by decide)
    (hcd : (x == ("__classdict__" : Str)) = false := by decide) (hbase : attributeBase (.Name x p) "append" X.env (eval (.Name x p) X.env) = eval (.Name x p) X.env := by rfl)
    (hfew : ((backTo cpos (starEach [e] X.env)).all (fun x => !x.1) && (backToKw cpos (keywordEach [] X.env)).all (fun x => x.1.isSome)
      && decide ([e].length + ([] : List Keyword).length + (if ([] : List Keyword).isEmpty then 0 else 1) < 30)) = true := by rfl)
    (hline : (apos.endLine == cpos.line) = true := by rfl) (hs : starEach [e] X.env = (false, eval e X.env) :: starEach [] X.env := by rfl) (hplain : (backTo cpos (starEach [] X.env)).any (·.1) = false := by rfl)
    (hs2 : swapsWith (.Call (.Attribute (.Name x p) "append" apos) [e] [] cpos) none pos.line X.env = pure false := by rfl) :
    JS X K (.Expr (.Call (.Attribute (.Name x p) "append" apos) [e] [] cpos) pos) (Mi (Rn K "list" Vf (Dm i) (GD te Gd))) (QC i (vS f)) := pG i he.pe (NK he.pu) hK hN hv hd hcd hbase hfew hline hs hplain hs2
theorem Yw (i : Nat) {x : Str} {e ix : Expr} {te ti : TE} {f fi : PF} {p spos : Pos} (he : JE X K e te f) (hi : JE X K ix ti fi) (hN : X.N[i]? = some x := by rfl) (hv : Fx X.env.scope x := by first | exact Or.inl rfl | exact Or.inr (Or.inl rfl) | exact Or.inr (Or.inr rfl)) (hd : (x == ("__debug__" : Str)) = false := by decide)
    (hcd : (x == ("__classdict__" : Str)) = false := by decide)
    (ha : ∀ v, assign (.Subscript (.Name x p) ix spos) X.env v = (do
      let ov ← holding [v] (eval (.Name x p) X.env)
      let iv ← holding [v, ov] (eval ix X.env)
      standAt spos
      holding [v, ov, iv] (setItem ov iv v)
      release [v, ov, iv] []) := by intro _; rfl)
    (hs : swapsWithSole [.Subscript (.Name x p) ix spos] e pos.line X.env = pure false := by rfl) (hw : swappedStores [.Subscript (.Name x p) ix spos] e X.env = pure none := by rfl)
    (h1 : (assignEach [.Subscript (.Name x p) ix spos] X.env).map (·.2) = [assign (.Subscript (.Name x p) ix spos) X.env] := by rfl) :
    JS X K (.Assign [.Subscript (.Name x p) ix spos] e pos) (Ff te (K9 (Dm i) ti Ka)) (Jh i fi (vS f)) := w6 i he.pe (NK he.pu) hi hN hv hd hcd ha hs hw h1
end
def Xv (K : Frag) : Sp := fun vs H Q _ => ∃ (a : Addr) (ns : List Int), vs = [.ref a] ∧ Bg K H a (ns.map V.int) ∧ ns.length ≤ 63 ∧ ∀ H', Q (.bl true) H'
theorem yP {K : Frag} {H : Hp} : ∀ ns : List Int, BL K H (ns.map V.int) (ns.map PyData.int)
  | [] => .nil
  | n :: r => .cons (.int n) (yP r)
theorem Callee.yJ {P : Program} {w : World} {K : Frag} {mg : Str → Option Value} {base : Heap} {k : Nat} {x : Str} {ps : List Str} {f : List D → Option D} (C : Callee P w K mg base k x ps (Ay K 1 f)) (h : ∀ ns : List Int, ns.length ≤ 63 → f [.list (ns.map PyData.int)] = some (.bool true)) : Callee P w K mg base k x ps (Xv K) :=
  C.imp fun vs H Q E ⟨a, ns, e, hq, hl, q⟩ => by
    subst e
    refine ⟨rfl, [], [.list (ns.map PyData.int)], .bool true, CP.nil, ?_, h ns hl, fun v H' s' r => ?_⟩
    · rw [AIw]
      exact .cons (.lst hq (yP ns)) .nil
    · cases r
      exact q H'
end L2
namespace L2
open PySem PySem.Spec PyProof.Rows
def Rc : List D → Option (List Int)
  | [] => some []
  | .int i :: r => (Rc r).bind fun ns => some (i :: ns)
  | _ => none
theorem AMT {K : Frag} {H : Hp} {vs : List V} {ds : List D} {ns : List Int} (r : BL K H vs ds) (h : Rc ds = some ns) : vs = ns.map V.int := by
  induction ds generalizing vs ns with
  | nil => cases r; cases h; rfl
  | cons d ds ih =>
    cases r with
    | cons r t =>
      cases r with
      | int b =>
        obtain ⟨bs, e, h⟩ := Al h
        cases h
        rw [ih t e]
        rfl
      | _ => cases h
section
variable {X : Cx} {K : Frag}
def Tj : List D → Option D
  | [.list ds] => (Rc ds).bind fun ns => some (.int ns.sum)
  | _ => none
theorem AHe (hh : X.A.handled = none) : Gz X (.builtin "sum") (fun xs H Q => ∃ (a : Addr) (ns : List Int), xs = [.ref a] ∧ Bg X.K H a (ns.map V.int) ∧ Q (.int ns.sum) H) := by
  intro pins s σ H xs us Q I r h
  obtain ⟨a, ns, rfl, hq, q⟩ := h
  obtain ⟨u, rfl, rx⟩ := vals1 r
  cases rx
  obtain ⟨its, rv, pl, hz⟩ := I.list hq
  have ia : IntsAre its ns := intsAre_of rv
  have hl := pl.isList
  obtain ⟨xs, hxs⟩ := ia.allInts.items
  have hn : xs.toList.map (·.1) = ns := by
    rw [← nums_intItems, ← hxs]
    exact ia.numsOf
  rw [hxs] at hl
  refine sum_intListG hh hl fun h' tk t' hk => ?_
  rw [preSum_eq, List.take_of_length_le (by simp), hn]
  exact ⟨.int _, H, I.kept (t' := tk) hk, ⟨_, rfl⟩, q⟩
theorem uO (hK : X.K = K) (hh : X.A.handled = none) : Mt X K (.builtin "sum") (fun xs H Q => ∃ (a : Addr) (ns : List Int), xs = [.ref a] ∧ Bg K H a (ns.map V.int) ∧ Q (.int ns.sum) H) Tj := ⟨by subst hK; exact AHe hh, by
  intro O H vs ds d Q ok r hg q
  unfold Tj at hg
  split at hg
  · rename_i es
    obtain ⟨ns, e, hg⟩ := Al hg
    cases hg
    obtain ⟨v, rfl, r1⟩ := rep1 r
    cases r1 with
    | lst h r' =>
      have e2 := AMT r' e
      subst e2
      exact ⟨_, ns, rfl, Dj.seq h, q _ H (Ak.refl H) (.int _)⟩
  · cases hg⟩
theorem AKY {n : Nat} {acc : Array Value} {a : Int} (h : ItemsOf (fun i v => ∃ t, v = Value.int (a + i * 1) t) acc n) : Vals ((List.range n).map fun i : Nat => V.int (a + (i : Nat))) acc.toList := by
  obtain ⟨hs, hv⟩ := h
  have key : ∀ (l : List Value) (k : Nat), (∀ j v, l[j]? = some v → ∃ t, v = Value.int (a + ((k + j : Nat) : Int) * 1) t) → Vals ((List.range' k l.length).map fun i : Nat => V.int (a + (i : Nat))) l := by
    intro l
    induction l with
    | nil => intro k _; exact .nil
    | cons u r ih =>
      intro k hk
      rw [List.length_cons, List.range'_succ, List.map_cons]
      refine .cons ?_ (ih (k + 1) fun j v hj => ?_)
      · obtain ⟨t, e⟩ := hk 0 u rfl
        exact ⟨t, by rw [e]; simp⟩
      · obtain ⟨t, e⟩ := hk (j + 1) v (by simpa using hj)
        refine ⟨t, ?_⟩
        rw [e]
        congr 3
        omega
  have := key acc.toList 0 fun j v hj => by
    have := hv j v (by simpa using hj)
    simpa using this
  rw [Array.length_toList, hs, ← List.range_eq_range'] at this
  exact this
theorem AKH : Gz X (.type "range") (fun xs H Q => ∃ j : Int, xs = [.int j] ∧ ∀ p, H p = none → Q (.ref p) (upd H p (.rng 0 j))) := by
  intro pins s σ H xs us Q I r h
  obtain ⟨j, rfl, q⟩ := h
  obtain ⟨u, rfl, rx⟩ := vals1 r
  obtain ⟨t, rfl⟩ := rx
  refine call_range_1 ⟨.ref s.heap.objs.size, _, I.laid (o := .rng 0 j) (fun b ob q => Heap.get?_push_of_some _ q) (Nat.le_refl _) ?_, rfl, q _ (I.hok.fresh (Nat.le_refl _))⟩
  exact ⟨_, _, _, Heap.get?_push_size _ rfl⟩
theorem AKm (hh : X.A.handled = none) : Gz X (.type "list") (fun xs H Q => ∃ (p : Addr) (j : Int), xs = [.ref p] ∧ H p = some (.rng 0 j) ∧ -(2 ^ 62) ≤ j ∧ j < 2 ^ 62 ∧ j.toNat < sizeLine ∧ ∀ l, H l = none → Q (.ref l) (upd H l (.lst ((List.range j.toNat).map fun i : Nat => V.int (0 + (i : Nat)))))) := by
  intro pins s σ H xs us Q I r h
  obtain ⟨p, j, rfl, hp, h1, h2, h3, q⟩ := h
  obtain ⟨u, rfl, rx⟩ := vals1 r
  cases rx
  obtain ⟨t, u, v, e⟩ := I.hok p _ hp
  have hsz : sizeLine = 16777216 := sizeLine_eq
  refine call_list_range (n := j.toNat) hh (show IsRange s.heap p 0 j 1 t u v from e) (small_one (by decide) (by decide) h1 h2) (by rw [rangeSize_one]; split <;> omega) (by omega) fun h' tk acc' c' hk hS' hacc => ?_
  have hv := AKY hacc
  refine ⟨.ref s.heap.objs.size, _, I.laid (t' := tk) (o := .lst ((List.range j.toNat).map fun i : Nat => V.int (0 + (i : Nat)))) hk (Nat.le_refl _) ?_, rfl, q _ (I.hok.fresh (Nat.le_refl _))⟩
  exact ⟨by simp; omega, acc'.toList, c', hv, hS'⟩
theorem ABb {H : Hp} (n : Nat) : BL K H ((List.range n).map fun i : Nat => V.int (0 + (i : Nat))) (Fi 0 n) := by
  unfold Fi
  generalize List.range n = l
  induction l with
  | nil => exact .nil
  | cons a r ih => exact .cons (.int _) ih
def V6 (r : BW) : BW := fun ρ => (r ρ).bind fun ds => (Ek ds).bind fun es => if fits es.length = true then some es else none
theorem AIc {a : Expr} {ta : TA} {r : BW} {p p2 pos pos2 : Pos} (hh : X.A.handled = none) (hg : Gl X "list") (hm : X.mg "list" = none) (hg2 : Gl X "range") (hm2 : X.mg "range" = none) (ha : JA X K [a] ta r) (he : starEach [a] X.env = (false, eval a X.env) :: starEach [] X.env := by rfl) (hpl : (backTo pos2 (starEach [] X.env)).any (·.1) = false := by rfl) (he2 : starEach [.Call (.Name "range" p2) [a] [] pos2] X.env = (false, eval (.Call (.Name "range" p2) [a] [] pos2) X.env) :: starEach [] X.env := by rfl) (AHW : (backTo pos (starEach [] X.env)).any (·.1) = false := by rfl) :
    JL X K (.Call (.Name "list" p) [.Call (.Name "range" p2) [a] [] pos2] [] pos) (J9 (fun xs H Q => ∃ (p : Addr) (j : Int), xs = [.ref p] ∧ H p = some (.rng 0 j) ∧ -(2 ^ 62) ≤ j ∧ j < 2 ^ 62 ∧ j.toNat < sizeLine ∧ ∀ l, H l = none → Q (.ref l) (upd H l (.lst ((List.range j.toNat).map fun i : Nat => V.int (0 + (i : Nat))))))
      (GD (J9 (fun xs H Q => ∃ j : Int, xs = [.int j] ∧ ∀ p, H p = none → Q (.ref p) (upd H p (.rng 0 j))) ta) Gd)) (V6 r) :=
  ⟨Wb (AKm hh) hg hm (by rfl) (Eo (Wb AKH hg2 hm2 (by rfl) ha.pe (by decide) (by decide) he hpl) HY he2) (by decide) (by decide) he2 AHW, by
  intro O σ H ρ es Q ok er hf q
  obtain ⟨ds, e1, hf⟩ := Al hf
  obtain ⟨fs, e2, hf⟩ := Al hf
  by_cases hc : fits fs.length = true
  · rw [if_pos hc] at hf
    obtain rfl : fs = es := Option.some.inj hf
    refine ha.pu O σ H ρ ds _ ok er e1 fun vs H1 s1 r1 => ?_
    unfold Ek at e2
    split at e2
    · rename_i j
      obtain ⟨v, rfl, rv⟩ := rep1 r1
      cases rv
      by_cases hj : -(2 ^ 62) ≤ j ∧ j < 2 ^ 62
      · rw [if_pos hj] at e2
        obtain rfl : Fi 0 j.toNat = fs := Option.some.inj e2
        rw [ZW] at hc
        refine ⟨j, rfl, fun pr hpr => ?_⟩
        refine ⟨pr, j, rfl, Dg, hj.1, hj.2, of_decide_eq_true hc, fun l hl => ?_⟩
        have sn : Ak H1 (upd H1 pr (.rng 0 j)) := Ak.new hpr
        have s2 := s1.trans sn
        exact q l _ _ (s2.trans (Ak.new hl)) (s2.free hl) Dg (ABb _)
      · rw [if_neg hj] at e2
        cases e2
    · cases e2
  · rw [if_neg hc] at hf
    cases hf⟩
def aM (i : Nat) (fi : PF) : Ao := fun ρ => (fi (full ρ)).bind fun kd => (Jd kd).bind fun k => (ρ[i]?).bind fun s' => (QG s').bind fun ds => if 0 ≤ k ∧ k < ds.length ∧ fits ds.length = true then some (.nx (ρ.set i (.ow (ds.eraseIdx k.toNat)))) else none
theorem BL.eraseIdx {H : Hp} : ∀ {xs : List V} {ds : List D} (k : Nat), BL K H xs ds → BL K H (xs.eraseIdx k) (ds.eraseIdx k)
  | _, _, _, .nil => .nil
  | _, _, 0, .cons _ b => b
  | _, _, k + 1, .cons a b => .cons a (BL.eraseIdx k b)
theorem ADV (i : Nat) {x : Str} {e : Expr} {te : TE} {f : PF} {p apos cpos pos : Pos} (he : JE X K e te f) (hK : X.K = K) (hN : X.N[i]? = some x := by rfl) (hv : Fx X.env.scope x := by first | exact Or.inl rfl | exact Or.inr (Or.inl rfl) | exact Or.inr (Or.inr rfl)) (hd : (x == ("__debug__" : Str)) = false := by decide)
    (hcd : (x == ("__classdict__" : Str)) = false := by decide) (hbase : attributeBase (.Name x p) "pop" X.env (eval (.Name x p) X.env) = eval (.Name x p) X.env := by rfl)
    (hfew : ((backTo cpos (starEach [e] X.env)).all (fun x => !x.1) && (backToKw cpos (keywordEach [] X.env)).all (fun x => x.1.isSome)
      && decide ([e].length + ([] : List Keyword).length + (if ([] : List Keyword).isEmpty then 0 else 1) < 30)) = true := by rfl)
    (hline : (apos.endLine == cpos.line) = true := by rfl) (hs : starEach [e] X.env = (false, eval e X.env) :: starEach [] X.env := by rfl) (hplain : (backTo cpos (starEach [] X.env)).any (·.1) = false := by rfl)
    (hs2 : swapsWith (.Call (.Attribute (.Name x p) "pop" apos) [e] [] cpos) none pos.line X.env = pure false := by rfl) :
    JS X K (.Expr (.Call (.Attribute (.Name x p) "pop" apos) [e] [] cpos) pos) (Mi (Rn K "list" lC (Dm i) (GD te Gd))) (aM i f) := ⟨by
  subst hK
  exact UT (YT PySem.F.plainAttrs_list PySem.F.slot_list_pop PySem.F.type_list_pop AI8 (JH hN hv hd hcd) (Eo he.pe HY hs) hbase hfew hline hs hplain) hs2, by
  intro H0 O0 G σ H ρ o E ok s hf q
  obtain ⟨kd, e1, hf⟩ := Al hf
  obtain ⟨k, e2, hf⟩ := Al hf
  obtain ⟨sl2, e3, hf⟩ := Al hf
  obtain ⟨ds, e4, hf⟩ := Al hf
  rw [cM e4] at e3
  by_cases hc : 0 ≤ k ∧ k < ds.length ∧ fits ds.length = true
  · rw [if_pos hc] at hf
    cases hf
    obtain ⟨a0, xs0, h10, h20, h30⟩ := s.Gm e3
    refine ⟨_, h10, .inl ⟨rfl, _, Bg.of h20⟩, ?_⟩
    refine s.M7 he.pu ok e1 fun v H1 s1 t1 rv => ?_
    obtain ⟨O, s0, n, nd, g, sl⟩ := t1.ex
    obtain ⟨a, xs, h1, h2, h3, h4⟩ := sl.Gm e3
    rw [h10] at h1
    cases h1
    have hl := h4.length
    have hsz : sizeLine = 16777216 := sizeLine_eq
    have hfit : ds.length < sizeLine := of_decide_eq_true hc.2.2
    cases rv with
    | int m =>
      obtain rfl : m = k := Option.some.inj e2
      have hkl : m.toNat < xs.length := by omega
      refine ⟨a0, xs, m, m.toNat, xs[m.toNat], rfl, rfl, h3, by omega, by omega, seqIndex_of hc.1 (by omega), by simp [hkl], q σ _ ⟨O, fun b o e => ?_, n, nd, ?_, ?_⟩⟩
      · rw [Ba (De e (n a0 h2))]
        exact s0 b o e
      · rw [Ih (by simp [h2])]
        exact g
      · rw [Ih (by simp [h2])]
        exact sl.write (h4.eraseIdx _) nd e3 h10
    | _ => cases e2
  · rw [if_neg hc] at hf
    cases hf⟩
end
end L2
namespace L2
open PySem PySem.Spec PyProof.Rows
end L2
namespace L2
open PySem PySem.Spec PyProof.Rows
def Z4 (lo c : Int) (n : Nat) : It := ⟨fun i _ => i < n, fun i H x H' => H' = H ∧ x = .int (lo + i * c), fun i _ => n ≤ i⟩
theorem AN9 {P : Program} {w : World} {K : Frag} {tg : Expr} (it : Addr) (lo c : Int) (n : Nat) : Turn P w K tg (Z4 lo c n) [it] it (fun i h => IsRangeIter h it (lo + (i : Nat) * c) ((n : Int) - (i : Nat)) c) where
  mem := by simp
  obj := fun i h st b hb => by
    have e : b = it := by simpa using hb
    subst e
    exact ⟨_, st, fun v z => by
      have z' : Data.fields _ = Data.cell v := z
      cases z'⟩
  keep := fun i h h' st k => k it (by simp) _ st
  item := by
    intro X hP hw hK hc i pins s σ H E I hf st hg
    subst hP hw hK
    obtain ⟨f0, f1, f2, f3, f4, f5⟩ := hf it (by simp)
    have W := Walks.range (prog := X.prog) (w := X.w) (I.ok.hd hc) it lo c n
    refine W.item i s _ _ hg st fun v h' tk hv st' kk => ?_
    obtain ⟨t, rfl⟩ := hv
    have I1 : Inv X pins σ H { s with heap := h', toks := tk } := I.turned (fun b o hb e => kk b o (by simpa using hb) e) f0 f1 f3 f4 f5
    exact ⟨_, rfl, Wx (s := { s with heap := h', toks := tk }) (n := "range_iterator") st' rfl rfl (by decide) ⟨.int (lo + i * c), H, I1, ⟨t, rfl⟩, ⟨rfl, rfl⟩, st', fun b hb => (hf b hb).1⟩⟩
  done := by
    intro X hP hw hK hc i pins s σ H E I hf st hg
    subst hP hw hK
    obtain ⟨f0, f1, f2, f3, f4, f5⟩ := hf it (by simp)
    exact wpAny_pyNext_range_end (I.ok.hd hc) st (by have : n ≤ i := hg; omega) fun h' eb => ⟨rfl, I.turned (t' := s.toks) (fun b o hb e => eb b o hb e) f0 f1 f3 f4 f5⟩
  self := fun _ _ _ _ _ st h => wpAny_pyIter_rangeiter st h
def Ol (lo c : Int) (n : Nat) : List D := (List.range n).map fun i => .int (lo + (i : Nat) * c)
def Ju (a b c : Int) : Nat := (Builtin.Range.rangeSize a b c).toNat
def Sv : List D → Option (List D)
  | [.int a, .int b, .int c] => if 0 ≤ a ∧ a ≤ b ∧ b < 1000000 ∧ 1 ≤ c ∧ c < 1000000 then some (Ol a c (Ju a b c)) else none
  | _ => none
def wD (ta : TA) : TI := fun σ H R => ta σ H fun vs H1 => ∃ a b c : Int, vs = [.int a, .int b, .int c] ∧ (0 ≤ a ∧ a ≤ b ∧ b < 1000000 ∧ 1 ≤ c ∧ c < 1000000) ∧ R (Z4 a c (Ju a b c)) H1
theorem AEn {a b c : Int} (h : 0 ≤ a ∧ a ≤ b ∧ b < 1000000 ∧ 1 ≤ c ∧ c < 1000000) : Builtin.Range.small a b c = true := by
  have hs : Builtin.Range.rangeSize a b c ≤ 1000001 ∧ 0 ≤ Builtin.Range.rangeSize a b c := by
    unfold Builtin.Range.rangeSize
    rw [if_pos (by omega)]
    split
    · have q1 := Int.ediv_nonneg (a := b - a - 1) (b := c) (by omega) (by omega)
      have q2 := Int.ediv_le_self (a := b - a - 1) c (by omega)
      omega
    · omega
  unfold Builtin.Range.small
  rw [if_pos (show c > 0 by omega)]
  simp only [Builtin.Range.rangeFitsLong, Bool.and_eq_true, Bool.or_eq_true, decide_eq_true_eq, beq_iff_eq]
  omega
section
variable {X : Cx} {K : Frag} {tg : Expr}
theorem ALB {a b c : Expr} {ta : TA} {p pos : Pos} (hg : Gl X "range") (hm : X.mg "range" = none) (ha : PA X [a, b, c] ta) (hs : starEach [a, b, c] X.env = [(false, eval a X.env), (false, eval b X.env), (false, eval c X.env)] := by rfl) (hs2 : starEach [b, c] X.env = [(false, eval b X.env), (false, eval c X.env)] := by rfl) :
    PI X tg (.Call (.Name "range" p) [a, b, c] [] pos) (wD ta) := by
  intro pins s σ H R I h
  refine Call_ (PJ I hg hm boot_range (PyProof.Rows.callWith_type1 (Bf (ha pos pins s σ H _ I h) fun us s1 ⟨vs, H1, I1, r1, q1⟩ => ?_) (by rw [hs, hs2]) (by rw [hs2]; rfl)))
  obtain ⟨i, j, k, e, hb, q⟩ := q1
  subst e
  cases r1 with
  | cons r rr =>
    cases rr with
    | cons r' rr =>
      cases rr with
      | cons r'' rr =>
        cases rr
        obtain ⟨t, rfl⟩ := r
        obtain ⟨t', rfl⟩ := r'
        obtain ⟨t'', rfl⟩ := r''
        refine call_range_3 (by omega) ?_ (Or.inl (PyProof.noPylong_small (by omega)))
        refine wpAny_pyIter_range (IsRange.new ..) (AEn hb) ?_
        have I2 : Inv X pins σ H1 { s1 with heap := s1.heap.push { cls := .type "range", data := .fields #[.int i t, .int j t', .int k t''] }, toks := s1.toks } := I1.kept fun b o e => Heap.get?_push_of_some _ e
        refine ⟨(s1.heap.push { cls := .type "range", data := .fields #[.int i t, .int j t', .int k t''] }).objs.size, [(s1.heap.push { cls := .type "range", data := .fields #[.int i t, .int j t', .int k t''] }).objs.size], _, _, H1, rfl,
          I2.kept (t' := s1.toks) fun b o e => Heap.get?_push_of_some _ e, AN9 _ i k (Ju i j k), ?_, fun b hb => ?_, q⟩
        · have e1 : i + ((0 : Nat) : Int) * k = i := by simp
          have e2 : ((Ju i j k : Nat) : Int) - ((0 : Nat) : Int) = Builtin.Range.rangeSize i j k := by
            have hnn : 0 ≤ Builtin.Range.rangeSize i j k := by
              unfold Builtin.Range.rangeSize
              rw [if_pos (by omega)]
              split
              · have := Int.ediv_nonneg (a := j - i - 1) (b := k) (by omega) (by omega)
                omega
              · exact Int.le_refl _
            unfold Ju
            omega
          show IsRangeIter _ _ (i + ((0 : Nat) : Int) * k) (((Ju i j k : Nat) : Int) - ((0 : Nat) : Int)) k
          rw [e1, e2]
          exact Heap.get?_push_size _ rfl
        · have e : b = (s1.heap.push { cls := .type "range", data := .fields #[.int i t, .int j t', .int k t''] }).objs.size := by simpa using hb
          subst e
          exact I2.M5 (Nat.le_refl _) (I2.hok.fresh (Nat.le_refl _))
theorem ANa (lo c : Int) (n : Nat) : (Ol lo c n).length = n := by simp [Ol]
theorem ABY {G : Hp} {lo c : Int} {n : Nat} : Lq K G (Z4 lo c n) (Ol lo c n) := by
  intro Oc H' ok s
  rw [ANa]
  refine ⟨fun i hi => hi, fun i x H'' hi y => ?_, Nat.le_refl _⟩
  obtain ⟨e, y⟩ := y
  subst e y
  exact ⟨.int (lo + (i : Nat) * c), by simp [Ol, hi], Ak.refl _, .int _⟩
theorem AKt {a b c : Expr} {ta : TA} {r : BW} {p pos : Pos} (hg : Gl X "range") (hm : X.mg "range" = none) (ha : JA X K [a, b, c] ta r) (hs : starEach [a, b, c] X.env = [(false, eval a X.env), (false, eval b X.env), (false, eval c X.env)] := by rfl) (hs2 : starEach [b, c] X.env = [(false, eval b X.env), (false, eval c X.env)] := by rfl) :
    JI X K tg (.Call (.Name "range" p) [a, b, c] [] pos) (wD ta) (Bm Sv r) := ⟨ALB hg hm ha.pe hs hs2, by
  intro O σ H ρ items R ok er hf q
  obtain ⟨ds, e1, hf⟩ := Al hf
  refine ha.pu O σ H ρ ds _ ok er e1 fun vs H1 s1 r1 => ?_
  unfold Sv at hf
  split at hf
  · rename_i x y z
    cases r1 with
    | cons u r1 =>
      cases r1 with
      | cons u2 r1 =>
        cases r1 with
        | cons u3 r1 =>
          cases r1
          cases u
          cases u2
          cases u3
          by_cases hc : 0 ≤ x ∧ x ≤ y ∧ y < 1000000 ∧ 1 ≤ z ∧ z < 1000000
          · rw [if_pos hc] at hf
            cases hf
            exact ⟨x, y, z, rfl, hc, q _ H1 s1 ABY⟩
          · rw [if_neg hc] at hf
            cases hf
  · cases hf⟩
end
end L2
namespace L2
open PySem PySem.Spec PyProof.Rows
theorem Cr {n m : Nat} {F : Ao} {ds : List D} {o : Out} {d : D} (hl : ds.length = n) (h : F (GX m ds) = some o) (ho : outD o = some d) : BZ n m F ds = some d := by
  unfold BZ
  rw [if_pos hl, h]
  exact ho
theorem Hy {n m : Nat} {F : Ao} {ds : List D} {es : List D} (hl : ds.length = n) (h : F (GX m ds) = some (.rl es)) : Dh n m F ds = some es := by
  unfold Dh
  rw [if_pos hl, h]
  rfl
theorem yK (a b : Int) : Df (.int a) (.int b) = some (.int (a + b)) := rfl
theorem pP (a b : Int) : Eu (.int a) (.int b) = some (.int (a - b)) := rfl
theorem U9 (a b : Int) : DX (.int a) (.int b) = if (small a || small b) = true then some (.int (a * b)) else none := rfl
theorem Xe (a b : Int) : Bl (.int a) (.int b) = if 0 < b then some (.int (a % b)) else none := by
  show (if decide (0 < b) = true then _ else _) = _
  simp only [decide_eq_true_eq]
theorem kO (a b : Int) : CJ (.int a) (.int b) = if (0 < b ∧ b < 1073741824) ∨ Wide b then some (.int (a / b)) else none := by
  show (if decide ((0 < b ∧ b < 1073741824) ∨ Wide b) = true then _ else _) = _
  simp only [decide_eq_true_eq]
theorem AK5 (a b : Int) : Ir (.int a) (.int b) = if 0 ≤ b ∧ b ≤ 1000000 ∧ a.natAbs < 2 ^ 64 then some (.int (a ^ b.toNat)) else none := by
  show (if decide (0 ≤ b ∧ b ≤ 1000000 ∧ a.natAbs < 2 ^ 64) = true then _ else _) = _
  simp only [decide_eq_true_eq]
def G9 (b : Int) : Int := 10 ^ b.toNat
theorem V2 (b : Int) : 0 < G9 b := Int.pow_pos (by decide)
theorem sY (b : Int) : Ir (.int 10) (.int b) = if 0 ≤ b ∧ b ≤ 1000000 then some (.int (G9 b)) else none := by
  rw [AK5]
  have e : (10 : Int).natAbs < 2 ^ 64 := by decide
  simp only [e, and_true]
  rfl
theorem zA (a b : Int) : Ht (.int a) (.int b) = some (.bool (decide (a < b))) := rfl
theorem oF (a b : Int) : HF (.int a) (.int b) = some (.bool (decide (a ≤ b))) := rfl
theorem jT (a b : Int) : Lp (.int a) (.int b) = some (.bool (decide (b < a))) := rfl
theorem qU (a b : Int) : Xi (.int a) (.int b) = some (.bool (decide (b ≤ a))) := rfl
theorem xR (a : Int) : Q5 (.int a) = some (.int (-a)) := rfl
theorem Wc (a b : Int) : Bx (.int a) (.int b) = some (.bool (decide (a = b))) := by
  simp [Bx, SeqAt.shaped, PyData.canLay0, PyData.depth, PyData.eqv, Bool.beq_eq_decide_eq]
theorem jP (a b : Int) : Cm (.int a) (.int b) = some (.bool (!decide (a = b))) := by
  simp [Cm, SeqAt.shaped, PyData.canLay0, PyData.depth, PyData.eqv, Bool.beq_eq_decide_eq]
theorem xK (ds : List D) (i : Int) : Az (.list ds) (.int i) = Cw ds i := rfl
theorem xG (ds : List D) (i : Int) : Az (.tuple ds) (.int i) = Cw ds i := rfl
theorem LK {α : Type} (xs : List α) (j : Nat) : Cw xs (j : Int) = xs[j]? := by
  unfold Cw Dz
  by_cases h : j < xs.length
  · rw [if_pos (by omega), if_pos (by omega)]
    simp
  · rw [if_pos (by omega), if_neg (by omega)]
    simp; omega
theorem qL {α : Type} (x : α) (xs : List α) : Cw (x :: xs) 0 = some x := LK (x :: xs) 0
theorem uZ {α : Type} (x y : α) (xs : List α) : Cw (x :: y :: xs) 1 = some y := LK (x :: y :: xs) 1
theorem lL {α : Type} (x y z : α) (xs : List α) : Cw (x :: y :: z :: xs) 2 = some z := LK (x :: y :: z :: xs) 2
theorem Uz {n : Nat} (h : n < 16777216) : fits n = true := decide_eq_true h
theorem Vh (i : Int) : small i = decide (-18446744073709551616 < i ∧ i < 18446744073709551616) := rfl
theorem vY (n : Nat) : fits n = decide (n < 16777216) := rfl
theorem oR (i : List D) : Gv (.list i) = "list" := rfl
theorem j9 (i : List D) : Gv (.tuple i) = "tuple" := rfl
theorem rJ (i : Bool) : Gv (.bool i) = "bool" := rfl
theorem qR (i : Int) : Gv (.int i) = "int" := rfl
theorem jF : Gv .none = "NoneType" := rfl
theorem pX (t : String) : Ip t t = true := by simp [Ip]
theorem rT : Ip "int" "bool" = false := by decide
theorem p8 : Ip "bool" "int" = true := by decide
theorem mD : Jf (.none : D) = true := rfl
theorem wY (i : Int) : Jf (.int i : D) = false := rfl
theorem pZ (i : List D) : Jf (.list i : D) = false := rfl
theorem oK (i : List D) : Jf (.tuple i : D) = false := rfl
theorem Be {α β : Type} (a : α) (f : α → Option β) : (some a).bind f = f a := by
  have h : ∀ o : Option α, o = some a → o.bind f = f a := by
    intro o e
    subst e
    rfl
  exact h _ rfl
theorem uX {α β : Type} (f : α → Option β) : (none : Option α).bind f = none := rfl
theorem v5 {α : Type} (x : α) (xs : List α) : (x :: xs)[0]? = some x := rfl
theorem oG {α : Type} (x : α) (xs : List α) (i : Nat) : (x :: xs)[i + 1]? = xs[i]? := rfl
theorem wZ (b : Bool) : KD (.bool b) = some b := rfl
theorem Ls (b : Int) : Jd (.int b) = some b := rfl
theorem rW (b : List D) : La (.list b) = some b := rfl
theorem lV (b : List D) : qQ (.tuple b) = some b := rfl
theorem dD (b : D) : Li (.sh b) = some b := rfl
theorem qO (b : List D) : QG (.ow b) = some b := rfl
theorem uC (d : D) : Sl.view (.sh d) = some d := rfl
theorem jO (d : List D) : Sl.view (.ow d) = some (.list d) := rfl
theorem jN : Sl.view .no = none := rfl
theorem xM (d : D) : Sl.mask (.sh d) = some d := rfl
theorem wG (d : List D) : Sl.mask (.ow d) = none := rfl
theorem xJ : Sl.mask .no = none := rfl
theorem wX (ds : List D) : CG [.list ds] = some (.int ds.length) := rfl
theorem iM (ds : List D) : CG [.tuple ds] = some (.int ds.length) := rfl
theorem yV (ds : List D) : Fy [.list ds] = some ds := rfl
theorem jH (ds : List D) : Fy [.tuple ds] = some ds := rfl
theorem lH (ds : List D) : Sy [.list ds] = some (Jv ds) := rfl
theorem u5 (ds es : List D) : Q8 [.list ds, .list es] = some (MJ ds es) := rfl
theorem vK (i j : Int) : Ml [.int i, .int j] = some (.int (max i j)) := rfl
theorem iW (i j : Int) : AJu [.int i, .int j] = some (.int (min i j)) := rfl
theorem xW (b : Bool) : LR [.bool b] = some (.int (if b then 1 else 0)) := rfl
theorem jX (b : Int) : LR [.int b] = some (.int b) := rfl
theorem R4 (j : Int) (h : -4611686018427387904 ≤ j ∧ j < 4611686018427387904) : Ek [.int j] = some (Fi 0 j.toNat) := if_pos h
theorem tR (m : Nat) (ds : List D) : GX m ds = ds.map .sh ++ List.replicate (m - ds.length) .no := rfl
theorem nZ (i : Int) : Ge (.int i) = true := by simp [Ge]
theorem yS (i : Bool) : Ge (.bool i) = true := by simp [Ge]
theorem xP : Ge .none = true := by simp [Ge]
theorem t7 (ds : List D) : Ge (.tuple ds) = Fp ds := by simp [Ge]
theorem jA : Fp [] = true := rfl
theorem Zh (d : D) (ds : List D) : Fp (d :: ds) = (Ge d && Fp ds) := rfl
theorem nW {α : Type} (a b : α) : (if true = true then a else b) = a := rfl
theorem n6 {α : Type} (a b : α) : (if false = true then a else b) = b := rfl
theorem Pu {α : Type} {bd : D → Bc → Option Bc} {pt : PB} {fe : PF} {ρ0 : Bc} (enc : α → D) (p : α → Bool) (h : α → D) : ∀ (xs : List α), (∀ x ∈ xs, ∃ ρ1, bd (enc x) ρ0 = some ρ1 ∧ pt ρ1 = some (p x) ∧ (p x = true → fe ρ1 = some (h x))) →
    Hm bd pt fe ρ0 (xs.map enc) = some ((xs.filter p).map h)
  | [], _ => rfl
  | x :: xs, H => by
    obtain ⟨ρ1, h1, h2, h3⟩ := H x Bp
    have ih := Pu enc p h xs fun y hy => H y (BK hy)
    rw [List.map_cons]
    unfold Hm
    rw [h1, Be, h2, Be, ih]
    cases hp : p x with
    | true => rw [if_pos rfl, h3 hp, Be, Be, List.filter_cons_of_pos hp]; rfl
    | false => rw [if_neg Bool.false_ne_true, List.filter_cons_of_neg (by rw [hp]; exact Bool.false_ne_true)]
theorem Oj {α : Type} {bd : D → Bc → Option Bc} {fe : PF} {ρ0 : Bc} (enc : α → D) (h : α → D) (xs : List α) (H : ∀ x ∈ xs, ∃ ρ1, bd (enc x) ρ0 = some ρ1 ∧ fe ρ1 = some (h x)) :
    Hm bd Cq fe ρ0 (xs.map enc) = some (xs.map h) := by
  have := Pu (pt := Cq) enc (fun _ => true) h xs fun x hx => by
    obtain ⟨ρ1, h1, h2⟩ := H x hx
    exact ⟨ρ1, h1, rfl, fun _ => h2⟩
  rw [this, List.filter_eq_self.mpr (fun _ _ => rfl)]
theorem YL {bs : D → Am → Option Am} {F : Ao} {d : D} {ds : List D} {ρ ρ1 ρ2 : Am} (h1 : bs d ρ = some ρ1) (h2 : F ρ1 = some (.nx ρ2)) : Ea bs F (d :: ds) ρ = Ea bs F ds ρ2 := by
  simp only [Ea, h1, h2, Be]
theorem ABG {bs : D → Am → Option Am} {F : Ao} {d r : D} {ds : List D} {ρ ρ1 : Am} (h1 : bs d ρ = some ρ1) (h2 : F ρ1 = some (.rt r)) : Ea bs F (d :: ds) ρ = some (.rt r) := by
  simp only [Ea, h1, h2, Be]
theorem V8 {α S : Type} {bs : D → Am → Option Am} {F : Ao} (enc : α → D) (R : S → Am → Prop) (step : S → α → S) : ∀ (xs : List α), (∀ s ρ x, x ∈ xs → R s ρ → ∃ ρ1 ρ2, bs (enc x) ρ = some ρ1 ∧ F ρ1 = some (.nx ρ2) ∧ R (step s x) ρ2) →
    ∀ s ρ, R s ρ → ∃ ρ', Ea bs F (xs.map enc) ρ = some (.nx ρ') ∧ R (xs.foldl step s) ρ'
  | [], _, s, ρ, r => ⟨ρ, rfl, r⟩
  | x :: xs, H, s, ρ, r => by
    obtain ⟨ρ1, ρ2, h1, h2, r2⟩ := H s ρ x Bp r
    obtain ⟨ρ', h3, r3⟩ := V8 enc R step xs (fun s ρ y hy => H s ρ y (BK hy)) (step s x) ρ2 r2
    exact ⟨ρ', by rw [List.map_cons, YL h1 h2]; exact h3, r3⟩
theorem Yq {bs : D → Am → Option Am} {F : Ao} {lo : Int} (R : Nat → Am → Prop) (n : Nat) (H : ∀ i ρ, i < n → R i ρ → ∃ ρ1 ρ2, bs (.int (lo + (i : Nat))) ρ = some ρ1 ∧ F ρ1 = some (.nx ρ2) ∧ R (i + 1) ρ2) (ρ : Am) (r : R 0 ρ) :
    ∃ ρ', Ea bs F (Fi lo n) ρ = some (.nx ρ') ∧ R n ρ' := by
  have key : ∀ (k i : Nat) (ρ : Am), i + k = n → R i ρ → ∃ ρ', Ea bs F ((List.range' i k).map fun i => .int (lo + (i : Nat))) ρ = some (.nx ρ') ∧ R n ρ' := by
    intro k
    induction k with
    | zero => intro i ρ h r; have e : i = n := by omega
              subst e; exact ⟨ρ, rfl, r⟩
    | succ k ih =>
      intro i ρ h r
      obtain ⟨ρ1, ρ2, h1, h2, r2⟩ := H i ρ (by omega) r
      obtain ⟨ρ', h3, r3⟩ := ih (i + 1) ρ2 (by omega) r2
      exact ⟨ρ', by rw [List.range'_succ, List.map_cons, YL h1 h2]; exact h3, r3⟩
  have := key n 0 ρ (by omega) r
  unfold Fi
  rw [List.range_eq_range']
  exact this
theorem ZQ {c : PB} {F : Ao} (B : Nat) (R : Nat → Am → Prop) (H : ∀ k ρ, R k ρ → ∃ b, c (full ρ) = some b ∧ (b = true → k < B ∧ ∃ ρ', F ρ = some (.nx ρ') ∧ R (k + 1) ρ')) :
    ∀ (n k : Nat) (ρ : Am), R k ρ → k ≤ B → B < k + n → ∃ k' ρ', JV c F n ρ = some (.nx ρ') ∧ R k' ρ' ∧ c (full ρ') = some false ∧ k' ≤ B
  | 0, k, ρ, _, h, h' => by omega
  | n + 1, k, ρ, r, h, h' => by
    obtain ⟨b, h1, h2⟩ := H k ρ r
    cases b with
    | false => exact ⟨k, ρ, by simp only [JV, h1, Be, Bool.false_eq_true, if_false], r, h1, h⟩
    | true =>
      obtain ⟨hk, ρ2, h3, r2⟩ := h2 rfl
      obtain ⟨k', ρ', h5, r5, h6, h7⟩ := ZQ B R H n (k + 1) ρ2 r2 (by omega) (by omega)
      refine ⟨k', ρ', ?_, r5, h6, h7⟩
      simp only [JV, h1, h3, Be, if_true]
      exact h5
theorem BJ {F F' : Ao} {ρ ρ' : Am} {o : Option Out} (h : F ρ = some (.nx ρ')) (h' : F' ρ' = o) : Aw F F' ρ = o := by
  unfold Aw
  rw [h]
  exact h'
theorem Ja {F F' : Ao} {ρ : Am} {d : D} (h : F ρ = some (.rt d)) : Aw F F' ρ = some (.rt d) := by
  unfold Aw
  rw [h]
  rfl
theorem AKA {F F' : Ao} {ρ : Am} {d : List D} (h : F ρ = some (.rl d)) : Aw F F' ρ = some (.rl d) := by
  unfold Aw
  rw [h]
  rfl
theorem SJ {fi : BW} {bs : D → Am → Option Am} {F : Ao} {ρ : Am} {items : List D} (h : fi (masked ρ) = some items) : J2 fi bs F ρ = Ea bs F items ρ := by
  unfold J2
  rw [h]
  rfl
theorem Hb {fi : BW} {bd : D → Bc → Option Bc} {pt : PB} {fe : PF} {n : Nat} {is : List Nat} {ρ : Bc} {items : List D} (h : fi ρ = some items) (hl : items.length < 16777216) : Ca fi bd pt fe n is ρ = Hm bd pt fe (compEnv n is ρ) items := by
  unfold Ca
  rw [h, Be, if_pos (Uz hl)]
theorem bZ (t u : Thing) : Bx (encD t) (encD u) = some (.bool (decide (t = u))) := by
  unfold Bx
  rw [if_pos ⟨YH t, YH u⟩, XF]
theorem YS (t u : Thing) : Cm (encD t) (encD u) = some (.bool (!decide (t = u))) := by
  unfold Cm
  rw [if_pos ⟨YH t, YH u⟩, XF]
theorem nJ (t : Thing) : Cm (encD t) (.tuple []) = some (.bool (!decide (t = none))) := YS t none
theorem kJ (t : Thing) : Bx (encD t) (.tuple []) = some (.bool (decide (t = none))) := bZ t none
theorem cJ (ts us : List Thing) : Bx (.list (ts.map encD)) (.list (us.map encD)) = some (.bool (decide (ts = us))) := by
  unfold Bx
  rw [if_pos ⟨XN ts, XN us⟩, oO]
theorem aO (ts us : List Thing) : Cm (.list (ts.map encD)) (.list (us.map encD)) = some (.bool (!decide (ts = us))) := by
  unfold Cm
  rw [if_pos ⟨XN ts, XN us⟩, oO]
theorem aJ (t : Thing) : Ge (encD t) = true := by
  cases t with
  | none => rfl
  | some kw => obtain ⟨k, w⟩ := kw; rfl
theorem Ru : ∀ ts : List Thing, Fp (ts.map encD) = true
  | [] => rfl
  | t :: r => by rw [List.map_cons, Zh, aJ, Ru r]; rfl
theorem AMp (a b : List Int) : Bx (.list (a.map PyData.int)) (.list (b.map PyData.int)) = some (.bool (decide (a = b))) := by
  have sh : ∀ l : List Int, PyData.canLayAll0 (l.map PyData.int) = true ∧ PyData.depthAll (l.map PyData.int) ≤ 1 := by
    intro l
    induction l with
    | nil => simp [PyData.canLayAll0, PyData.depthAll]
    | cons n r ih => simp only [List.map_cons, PyData.canLayAll0, PyData.depthAll, PyData.canLay0, PyData.depth, ih.1, Bool.and_self, true_and]; have := ih.2; omega
  have sp : ∀ l : List Int, SeqAt.shaped (.list (l.map PyData.int)) = true := fun l => by
    unfold SeqAt.shaped
    simp only [PyData.canLay0, PyData.depth, (sh l).1, Bool.true_and]
    exact decide_eq_true (by have := (sh l).2; omega)
  have ev : ∀ a b : List Int, PyData.eqvAll (a.map PyData.int) (b.map PyData.int) = decide (a = b) := by
    intro a
    induction a with
    | nil => intro b; cases b <;> simp [PyData.eqvAll]
    | cons x r ih =>
      intro b
      cases b with
      | nil => simp [PyData.eqvAll]
      | cons y q => simp only [List.map_cons, PyData.eqvAll, PyData.eqv, ih q]; by_cases h1 : x = y <;> by_cases h2 : r = q <;> simp [h1, h2]
  unfold Bx
  rw [if_pos ⟨sp a, sp b⟩]
  simp only [PyData.eqv]
  rw [ev]
theorem vB (a : List Int) : Bx (.list (a.map PyData.int)) (.list []) = some (.bool (decide (a = []))) := AMp a []
theorem sH (a : List Thing) : Bx (.list (a.map encD)) (.list []) = some (.bool (decide (a = []))) := cJ a []
end L2
namespace L2
open PySem PySem.Spec PyProof.Rows
abbrev Es := Bc → Option (List (List D))
theorem V1 {O O' : List Addr} {H H' : Hp} (s : Ak H H') (hn : ∀ b ∈ O', b ∈ O ∨ H b = none) : Ak (Ai O H) (Ai O' H') := fun b o e => by
  obtain ⟨n, e⟩ := Gr e
  rw [Cj fun z => (hn b z).elim n fun w => by rw [e] at w; cases w]
  exact s b o e
def X6 (K : Frag) (te : TE) (f : Es) : Prop := ∀ (O : List Addr) (σ : St) (H : Hp) (ρ : Bc) (dss : List (List D)) (Q : VK), CP O H → Dl K (Ai O H) σ ρ → f ρ = some dss →
  (∀ a ps H', Ak H H' → (a :: ps).Nodup → (∀ b ∈ a :: ps, H b = none) → H' a = some (.lst (ps.map V.ref)) → Inner K (Ai ((a :: ps) ++ O) H') H' ps dss → Q (.ref a) H') → te σ H Q
structure JN (X : Cx) (K : Frag) (e : Expr) (te : TE) (f : Es) : Prop where
  pe : PE X e te
  pu : X6 K te f
def pH (f : Es) : BW := fun ρ => (f ρ).bind fun dss => some (dss.map .list)
section
variable {X : Cx} {K : Frag}
def AG5 (K : Frag) (t : TA) (f : Es) : Prop := ∀ (O : List Addr) (σ : St) (H : Hp) (ρ : Bc) (dss : List (List D)) (Q : List V → Hp → Prop), CP O H → Dl K (Ai O H) σ ρ → f ρ = some dss →
  (∀ ps H', Ak H H' → ps.Nodup → (∀ b ∈ ps, H b = none) → Inner K (Ai (ps ++ O) H') H' ps dss → Q (ps.map V.ref) H') → t σ H Q
structure W4 (X : Cx) (K : Frag) (es : List Expr) (t : TA) (f : Es) : Prop where
  pe : PA X es t
  pu : AG5 K t f
def Vk : Es := fun _ => some []
def JB (a : BW) (r : Es) : Es := fun ρ => (a ρ).bind fun x => (r ρ).bind fun xs => some (x :: xs)
def U3 (r : Es) : Es := fun ρ => (r ρ).bind fun xs => if fits xs.length = true then some xs else none
theorem AGv : W4 X K [] Gd Vk := ⟨HY, by
  intro O σ H ρ ds Q ok er hf q
  cases hf
  exact q [] H (Ak.refl H) List.nodup_nil (fun b h => by cases h) .nil⟩
theorem ABd {O : List Addr} {H H' : Hp} {p : Addr} (ok : CP O H) (s : Ak H H') (hp : ∃ o, H' p = some o) : CP (p :: O) H' := fun a ha => by
  rcases List.mem_cons.mp ha with rfl | ha
  · exact hp
  · exact (ok.mono s) a ha
theorem Xx {e : Expr} {es : List Expr} {te : TE} {t : TA} {f : BW} {r : Es} (ha : JL X K e te f) (hr : W4 X K es t r) (hs : starEach (e :: es) X.env = (false, eval e X.env) :: starEach es X.env := by rfl) : W4 X K (e :: es) (GD te t) (JB f r) := ⟨Eo ha.pe hr.pe hs, by
  intro O σ H ρ dss Q ok er hf q
  obtain ⟨x, e1, hf⟩ := Al hf
  obtain ⟨xs, e2, hf⟩ := Al hf
  cases hf
  refine ha.pu O σ H ρ x _ ok er e1 fun p vs H1 s1 hp hp1 r1 => ?_
  have er1 : Dl K (Ai (p :: O) H1) σ ρ := er.mono (V1 s1 fun b hb => by
    rcases List.mem_cons.mp hb with rfl | hb
    · exact .inr hp
    · exact .inl hb)
  refine hr.pu (p :: O) σ H1 ρ xs _ (ABd ok s1 ⟨_, hp1⟩) er1 e2 fun ps H2 s2 nd hn inn => ?_
  have hpn : p ∉ ps := fun z => by have := hn p z; rw [hp1] at this; cases this
  refine q (p :: ps) H2 (s1.trans s2) (List.nodup_cons.mpr ⟨hpn, nd⟩) (fun b hb => ?_) (.cons (s2 _ _ hp1) ?_ ?_)
  · rcases List.mem_cons.mp hb with rfl | hb
    · exact hp
    · exact s1.free (hn b hb)
  · refine r1.mono (V1 s2 fun b hb => ?_)
    rcases List.mem_append.mp hb with hb | hb
    · rcases List.mem_cons.mp hb with rfl | hb
      · exact .inl Bp
      · exact .inr (hn b hb)
    · exact .inl (BK hb)
  · refine inn.mono (DQ fun b hb => ?_) fun _ _ _ e => e
    rcases List.mem_append.mp hb with hb | hb
    · rcases List.mem_cons.mp hb with rfl | hb
      · exact Bj Bp
      · exact Cy hb
    · exact Bj (BK hb)⟩
theorem AKh {es : List Expr} {t : TA} {r : Es} {pos : Pos} (h : W4 X K es t r) : JN X K (.List es pos) (Wz t) (U3 r) := ⟨cT h.pe, by
  intro O σ H ρ d Q ok er hf q
  obtain ⟨xs, e1, hf⟩ := Al hf
  by_cases hc : fits xs.length = true
  · rw [if_pos hc] at hf
    obtain rfl : xs = d := Option.some.inj hf
    refine h.pu O σ H ρ xs _ ok er e1 fun ps H1 s1 nd hn inn => ⟨by rw [List.length_map, inn.len]; exact WY hc, fun p hp => ?_⟩
    have sn : Ak H1 (upd H1 p (.lst (ps.map V.ref))) := Ak.new hp
    have hpn : p ∉ ps := fun z => by obtain ⟨_, e⟩ := inn.mem p z; rw [hp] at e; cases e
    refine q p ps _ (s1.trans sn) (List.nodup_cons.mpr ⟨hpn, nd⟩) (fun b hb => ?_) Dg ?_
    · rcases List.mem_cons.mp hb with rfl | hb
      · exact s1.free hp
      · exact hn b hb
    · exact inn.mono (Sh (O := ps ++ O) hp) fun a _ o e => sn a o e
  · rw [if_neg hc] at hf
    cases hf⟩
end
def Ss (bd : D → Bc → Option Bc) (pt : PB) (fe : BW) (ρ0 : Bc) : List D → Option (List (List D))
  | [] => some []
  | d :: ds => (bd d ρ0).bind fun ρ1 => (pt ρ1).bind fun b => if b = true then (fe ρ1).bind fun e => (Ss bd pt fe ρ0 ds).bind fun r => some (e :: r) else Ss bd pt fe ρ0 ds
def Kp (fi : BW) (bd : D → Bc → Option Bc) (pt : PB) (fe : BW) (n : Nat) (is : List Nat) : Es := fun ρ => (fi ρ).bind fun items => if fits items.length = true then Ss bd pt fe (compEnv n is ρ) items else none
section
variable {K : Frag} {wi : TI} {g : TG} {tc : TT} {te : TE} {fi : BW} {bd : D → Bc → Option Bc} {pt : PB} {fe : BW}
theorem Inner.snoc {G H : Hp} {p : Addr} {xs : List V} {ds : List D} (e : H p = some (.lst xs)) (r : BL K G xs ds) : ∀ {ps : List Addr} {dss : List (List D)}, Inner K G H ps dss → Inner K G H (ps ++ [p]) (dss ++ [ds])
  | _, _, .nil => .cons e r .nil
  | _, _, .cons e' r' t => .cons e' r' (Inner.snoc e r t)
theorem AM8 (hi : Wi K wi fi) (hg : fM K g bd) (ht : M8 K tc pt) (he : LQ K te fe) (n : Nat) (fv : List (Nat × Str)) : X6 K (Mu wi g tc te n fv) (Kp fi bd pt fe n (fv.map (·.1))) := by
  intro O σ H ρ total Q ok er hf q
  obtain ⟨items, e1, hf⟩ := Al hf
  by_cases hc : fits items.length = true
  case neg => rw [if_neg hc] at hf; cases hf
  rw [if_pos hc] at hf
  refine hi O σ H ρ items _ ok er e1 fun J H1 s1 it => fun D0 hD0 => ?_
  have hlt : items.length < sizeLine := of_decide_eq_true hc
  have okD : ∀ {H' : Hp} {ps : List Addr}, H' D0 ≠ none → (∀ a ∈ ps, ∃ xs, H' a = some (.lst xs)) → Ak H1 H' → CP ((D0 :: ps) ++ O) H' := fun {H' ps} hn hp s' a ha => by
    rcases List.mem_append.mp ha with ha | ha
    · rcases List.mem_cons.mp ha with rfl | ha
      · cases e : H' a with
        | none => exact absurd e hn
        | some o => exact ⟨o, rfl⟩
      · obtain ⟨xs, e⟩ := hp a ha
        exact ⟨_, e⟩
    · exact ((ok.mono s1).mono s') a ha
  have sD : ∀ {H' : Hp} {ps : List Addr}, Ak H1 H' → (∀ a ∈ ps, H1 a = none) → Ak (Ai O H1) (Ai ((D0 :: ps) ++ O) H') := fun {H' ps} s' hp => V1 s' fun b hb => by
    rcases List.mem_append.mp hb with hb | hb
    · rcases List.mem_cons.mp hb with rfl | hb
      · exact .inr hD0
      · exact .inr (hp b hb)
    · exact .inl hb
  have er1 : Dl K (Ai O H1) σ ρ := er.Ai s1
  have aX : (Gg n fv σ).length = (compEnv n (fv.map (·.1)) ρ).length := by simp [Gg, compEnv]
  refine oN (n := items.length) (fun i ys H' => ∃ ps es rest, ys = ps.map V.ref ∧ H' D0 = some (.lst ys) ∧ Ak H1 H' ∧ ps.length ≤ i ∧ (D0 :: ps).Nodup ∧ (∀ b ∈ ps, H1 b = none) ∧ Inner K (Ai ((D0 :: ps) ++ O) H') H' ps es ∧ Ss bd pt fe (compEnv n (fv.map (·.1)) ρ) (items.drop i) = some rest ∧ es ++ rest = total)
    ⟨[], [], total, rfl, Dg, Ak.new hD0, Nat.zero_le _, by simp, (fun b h => by cases h), .nil, by simpa using hf, rfl⟩ (fun i ys H' ⟨ps, es, rest, p⟩ => p.2.1)
    (fun i ys H' hi' ⟨ps, es, rest, p1, p2, p3, p4, p5, p6, p7, _⟩ => ((it ((D0 :: ps) ++ O) H' (okD (by rw [p2]; simp) p7.mem p3) (sD p3 p6)).1 i hi')) ?_ ?_
  · rintro i ys H' x H'' hi' ⟨ps, es, rest, rfl, hD', s', hy, ndp, hpn, inn, hcp, htot⟩ yl
    have ok' : CP ((D0 :: ps) ++ O) H' := okD (by rw [hD']; simp) inn.mem s'
    obtain ⟨d, ed, s'', rd⟩ := (it ((D0 :: ps) ++ O) H' ok' (sD s' hpn)).2.1 i x H'' hi' yl
    have hdrop : items.drop i = d :: items.drop (i + 1) := by
      rw [List.drop_eq_getElem_cons hi']
      congr 1
      exact Option.some.inj ((List.getElem?_eq_getElem hi').symm.trans ed)
    rw [hdrop] at hcp
    obtain ⟨ρ1, eb, hcp⟩ := Al hcp
    obtain ⟨b, et, hcp⟩ := Al hcp
    have s2 := s'.trans s''
    have WN := s'' _ _ hD'
    have ok2 : CP ((D0 :: ps) ++ O) H'' := ok'.mono s''
    refine hg ((D0 :: ps) ++ O) x d _ H'' _ ρ1 _ ok2 rd ((pC er1).mono (sD s2 hpn)) aX eb fun σ2 hl2 er2 => ?_
    refine ht ((D0 :: ps) ++ O) σ2 H'' ρ1 b _ ok2 er2 et fun H3 s3 => ?_
    have s03 := s2.trans s3
    have hD3 := s3 _ _ WN
    have aD : Inner K (Ai ((D0 :: ps) ++ O) H3) H3 ps es := inn.mono (Ds (s''.trans s3)) fun a _ o e => (s''.trans s3) a o e
    cases b with
    | false =>
      rw [if_neg Bool.false_ne_true] at hcp ⊢
      exact ⟨ps, es, rest, rfl, hD3, s03, by omega, ndp, hpn, aD, hcp, htot⟩
    | true =>
      rw [if_pos rfl] at hcp ⊢
      obtain ⟨e, ee, hcp⟩ := Al hcp
      obtain ⟨r, er', hcp⟩ := Al hcp
      cases hcp
      refine he ((D0 :: ps) ++ O) σ2 H3 ρ1 e _ (ok2.mono s3) (er2.Ai s3) ee fun p xs H4 s4 hp3 hp4 rv => ?_
      have hD4 := s4 _ _ hD3
      have s04 := s03.trans s4
      have hpD : p ≠ D0 := fun z => by rw [z, hD3] at hp3; cases hp3
      have AFa : p ∉ ps := fun z => by obtain ⟨_, e⟩ := aD.mem p z; rw [hp3] at e; cases e
      refine ⟨hD4, by rw [List.length_map]; omega, ps ++ [p], es ++ [e], r, by simp, by simpa using Dg, ?_, by rw [List.length_append]; show ps.length + 1 ≤ i + 1; omega, ?_, ?_, ?_, er', by rw [List.append_assoc]; exact htot⟩
      · intro b' o' eb'
        rw [Ba (De eb' hD0)]
        exact s04 b' o' eb'
      · have j6 := List.nodup_cons.mp ndp
        refine List.nodup_cons.mpr ⟨?_, ?_⟩
        · intro z
          rcases List.mem_append.mp z with z | z
          · exact j6.1 z
          · exact hpD (List.mem_singleton.mp z).symm
        · refine List.nodup_append.mpr ⟨j6.2, List.nodup_cons.mpr ⟨by simp, List.nodup_nil⟩, fun a ha b hb z => ?_⟩
          rw [List.mem_singleton] at hb
          exact AFa (by rw [← hb, ← z]; exact ha)
      · intro b hb
        rcases List.mem_append.mp hb with hb | hb
        · exact hpn b hb
        · rw [List.mem_singleton] at hb
          rw [hb]
          exact s03.free hp3
      · have m0 : D0 ∈ (D0 :: (ps ++ [p])) ++ O := by simp
        rw [Ih m0]
        refine Inner.snoc (xs := xs) (by rw [Ba hpD]; exact hp4) ?_ (aD.mono (V1 s4 fun b hb => ?_) fun a ha o e => ?_)
        · refine rv.mono (DQ fun b hb => ?_)
          simp only [List.cons_append, List.append_assoc, List.mem_cons, List.mem_append, List.not_mem_nil, or_false, false_or] at hb ⊢
          rcases hb with h | h | h | h
          · exact .inr (.inl h)
          · exact .inr (.inr (.inl h))
          · exact .inl h
          · exact .inr (.inr (.inr h))
        · simp only [List.cons_append, List.append_assoc, List.mem_cons, List.mem_append, List.not_mem_nil, or_false, false_or] at hb ⊢
          rcases hb with h | h | h | h
          · exact .inl (.inl h)
          · exact .inl (.inr (.inl h))
          · rw [h]; exact .inr hp3
          · exact .inl (.inr (.inr h))
        · rw [Ba fun z => (List.nodup_cons.mp ndp).1 (by rw [← z]; exact ha)]
          exact s4 a o e
  · rintro ys H' ⟨ps, es, rest, rfl, hD', s', hy, ndp, hpn, inn, hcp, htot⟩
    refine ⟨(it ((D0 :: ps) ++ O) H' (okD (by rw [hD']; simp) inn.mem s') (sD s' hpn)).2.2, ?_⟩
    rw [List.drop_length] at hcp
    cases hcp
    rw [List.append_nil] at htot
    subst htot
    refine q D0 ps H' (s1.trans s') ndp (fun b hb => ?_) hD' inn
    rcases List.mem_cons.mp hb with rfl | hb
    · exact s1.free hD0
    · exact s1.free (hpn b hb)
end
def vN (f : Es) : Am → Option Sl := fun ρ => (f (masked ρ)).bind fun dss => some (.on dss)
section
variable {X : Cx} {K : Frag}
theorem AKj {te : TE} {f : Es} (h : X6 K te f) : Ga K te (vN f) := by
  intro H0 O0 G σ H ρ s Q ok t hf q
  obtain ⟨d, e1, hf⟩ := Al hf
  cases hf
  obtain ⟨O, s0, n, nd, g, sl⟩ := t.ex
  have okA := HW ok s0 sl
  refine h (O0 ++ O) σ H (masked ρ) d Q okA sl.mask e1 fun a ps H' s' nda hn ha r => ?_
  have big : Ak (Ai (O0 ++ O) H) (Ai (O0 ++ ((a :: ps) ++ O)) H') := V1 s' fun b hb => by
    rcases List.mem_append.mp hb with hb | hb
    · exact .inl (Cy hb)
    · rcases List.mem_append.mp hb with hb | hb
      · exact .inr (hn b hb)
      · exact .inl (Bj hb)
  refine q (.ref a) H' s' ⟨O, a :: ps, s0.trans s', n, nd, g.trans big, sl.mono big fun b _ o e => s' b o e, a, ps, rfl, rfl, nda, fun b hb => ⟨fun z => okA.fresh (hn b hb) (Bj z), s0.free (hn b hb)⟩, ha, r.mono (DQ fun b hb => ?_) fun _ _ _ e => e⟩
  simp only [List.mem_append] at hb ⊢
  rcases hb with h | h | h <;> simp [h]
section
variable {tg elt iter : Expr} {ifs : List Expr} {scope : Scope} {wi : TI} {g : TG} {tc : TT} {te : TE} {fi : BW} {bd : D → Bc → Option Bc} {pt : PB} {fe : BW}
theorem uB {pos spos py : Pos} {i : Nat} {y : Str} (own : List Str) (fv : List (Nat × Str)) (hN : X.N.Nodup) (hy : X.N[i]? = some y) (hx : Loc X.env.scope y) (hc : X.calm = true) (hi : JI X K tg iter wi fi) (fo : Je X scope fv) (gk : Mf own.length g) (bg : ∀ fp pins s H, JG (Dn X (own ++ fv.map (·.2)) scope (En X.env scope.names []) fp pins s H) K tg g bd) (bt : ∀ fp pins s H, VL (Dn X (own ++ fv.map (·.2)) scope (En X.env scope.names []) fp pins s H) K ifs tc pt) (be : ∀ fp pins s H, JL (Dn X (own ++ fv.map (·.2)) scope (En X.env scope.names []) fp pins s H) K elt te fe) (kind : scope.kind = .function) (cell : ∀ y ∈ scope.names, y.2 ≠ .cell) (names : ∀ x ∈ scope.names, x.2 = .local → scope.names.lookup x.1 = some .local) (free : freeOk X scope = true) (hsw : swapsWith (.ListComp elt [⟨tg, iter, ifs, 0⟩] scope pos) (some (.Name y py)) spos.line X.env = pure true) (hs : ∀ x, foldedSetIterable iter X.env x = pure x := by intro _; rfl) (hf : X.fn y = true ∨ X.env.scope.names.lookup y = some .local := by first | exact Or.inl rfl | exact Or.inr rfl) :
    JS X K (.Assign [.Name y py] (.ListComp elt [⟨tg, iter, ifs, 0⟩] scope pos) spos) (Ff (Mu wi g tc te own.length fv) (FN i)) (Bb i (vN (Kp fi bd pt fe own.length (fv.map (·.1))))) :=
  YM (iI own fv hN hy hx hc hi.pe fo gk (fun fp pins s H => (bg fp pins s H).pe) (fun fp pins s H => (bt fp pins s H).pe) (fun fp pins s H => (be fp pins s H).pe) kind cell names free hsw hs hf)
    (AKj (AM8 hi.pu (bg [] [] X.s₀ X.H₀).pu (bt [] [] X.s₀ X.H₀).pu (be [] [] X.s₀ X.H₀).pu _ _))
end
theorem u6 (d : List (List D)) : Sl.view (.on d) = some (.list (d.map .list)) := rfl
theorem yI (d : List (List D)) : Sl.mask (.on d) = none := rfl
def Jy : Sl → Option (List (List D))
  | .on dss => some dss
  | _ => none
theorem Qn (d : List (List D)) : Jy (.on d) = some d := rfl
theorem Uo {s : Sl} {d : List (List D)} (h : Jy s = some d) : s = .on d := by
  cases s with
  | on e => cases h; rfl
  | _ => cases h
def Lr (i : Nat) (fi fj : PF) (vf : Am → Option Sl) : Ao := fun ρ => (vf ρ).bind fun s => (Li s).bind fun d => (fi (full ρ)).bind fun kd => (Jd kd).bind fun k => (fj (full ρ)).bind fun md => (Jd md).bind fun m => (ρ[i]?).bind fun s' => (Jy s').bind fun dss =>
  (Dz dss.length k).bind fun u => (dss[u]?).bind fun ds => (Dz ds.length m).bind fun j => some (.nx (ρ.set i (.on (dss.set u (ds.set j d)))))
theorem By.Fw {H0 : Hp} {O0 : List Addr} {G : Hp} {σ : St} {H : Hp} {ρ : Am} {i : Nat} {dss : List (List D)} (t : By K H0 O0 G σ H ρ) (hi : ρ[i]? = some (.on dss)) : ∃ (a : Addr) (ps : List Addr), σ[i]? = some (some (.ref a)) ∧ H a = some (.lst (ps.map V.ref)) ∧ ps.length = dss.length := by
  obtain ⟨O, s0, n, nd, g, sl⟩ := t.ex
  obtain ⟨a, ps, h1, h2, h3, h4, h5⟩ := sl.Fw nd hi
  exact ⟨a, ps, h1, h4, h5.len⟩
theorem By.JZ {H0 : Hp} {O0 : List Addr} {G : Hp} {σ : St} {H : Hp} {ρ : Am} {v : V} {d : D} {i u : Nat} {dss : List (List D)} {ds : List D} {a : Addr} {ps : List Addr} (t : GQ K H0 O0 G σ H ρ v (.sh d)) (hi : ρ[i]? = some (.on dss)) (hu : dss[u]? = some ds) (h1 : σ[i]? = some (some (.ref a))) (h4 : H a = some (.lst (ps.map V.ref))) :
    ∃ p xs, ps[u]? = some p ∧ H p = some (.lst xs) ∧ xs.length = ds.length ∧ ∀ j, By K H0 O0 G σ (upd H p (.lst (xs.set j v))) (ρ.set i (.on (dss.set u (ds.set j d)))) := by
  obtain ⟨O, P, s0, n, nd, g, sl, rfl, r⟩ := t.ex
  obtain ⟨a', ps', h1', h2, h3, h4', h5⟩ := sl.Fw nd hi
  rw [h1] at h1'
  cases h1'
  cases Uw h4 h4'
  obtain ⟨p, xs, q1, q2, q3⟩ := h5.get hu
  have hp : p ∈ O := h2 p (BK (List.mem_of_getElem? q1))
  have hpA : p ∈ O0 ++ ([] ++ O) := Bj hp
  refine ⟨p, xs, q1, q2, q3.length, fun j => ⟨O, fun b o e => ?_, n, nd, ?_, ?_⟩⟩
  · rw [Ba (De e (n p hp))]
    exact s0 b o e
  · rw [Ih (by simpa using hpA)]
    simpa using g
  · rw [Ih (by simpa using hpA)]
    have := sl.JZ (a := a) (ps := ps) (p := p) (j := u) (q3.set r j) nd hi h1 h4 q1
    simpa using this
theorem ABZ (i : Nat) {x : Str} {e ix jx : Expr} {te ti tj : TE} {fi fj : PF} {vf : Am → Option Sl} {p Dv spos pos : Pos} (he : PE X e te) (pv : Ga K te vf) (hK : X.K = K) (hi : JE X K ix ti fi) (hj : JE X K jx tj fj) (hsx : N5 ix) (hN : X.N[i]? = some x := by rfl) (hv : Fx X.env.scope x := by first | exact Or.inl rfl | exact Or.inr (Or.inl rfl) | exact Or.inr (Or.inr rfl)) (hd : (x == ("__debug__" : Str)) = false := by decide)
    (hcd : (x == ("__classdict__" : Str)) = false := by decide)
    (ha : ∀ v, assign (.Subscript (.Subscript (.Name x p) ix Dv) jx spos) X.env v = (do
      let ov ← holding [v] (eval (.Subscript (.Name x p) ix Dv) X.env)
      let iv ← holding [v, ov] (eval jx X.env)
      standAt spos
      holding [v, ov, iv] (setItem ov iv v)
      release [v, ov, iv] []) := by intro _; rfl)
    (hs : swapsWithSole [.Subscript (.Subscript (.Name x p) ix Dv) jx spos] e pos.line X.env = pure false := by rfl) (hw : swappedStores [.Subscript (.Subscript (.Name x p) ix Dv) jx spos] e X.env = pure none := by rfl)
    (h1 : (assignEach [.Subscript (.Subscript (.Name x p) ix Dv) jx spos] X.env).map (·.2) = [assign (.Subscript (.Subscript (.Name x p) ix Dv) jx spos) X.env] := by rfl) :
    JS X K (.Assign [.Subscript (.Subscript (.Name x p) ix Dv) jx spos] e pos) (Ff te (K9 (HB (Lx K) (Dm i) ti) tj Ka)) (Lr i fi fj vf) := ⟨Wt he (Yg (by subst hK; exact Us Vr (JH hN hv hd hcd) hi.pe hsx) hj.pe set_list ha) hs hw h1, by
  intro H0 O0 G σ H ρ o E ok s hf q
  obtain ⟨sl, e1, hf⟩ := Al hf
  obtain ⟨d, e2, hf⟩ := Al hf
  obtain ⟨kd, e5, hf⟩ := Al hf
  obtain ⟨k, e6, hf⟩ := Al hf
  obtain ⟨md, e7, hf⟩ := Al hf
  obtain ⟨m, e8, hf⟩ := Al hf
  obtain ⟨sl2, e3, hf⟩ := Al hf
  obtain ⟨dss, e4, hf⟩ := Al hf
  obtain ⟨u, e9, hf⟩ := Al hf
  obtain ⟨ds, e10, hf⟩ := Al hf
  obtain ⟨j, e11, hf⟩ := Al hf
  rw [XH e2] at e1
  rw [Uo e4] at e3
  cases hf
  refine pv H0 O0 G σ H ρ _ _ ok s e1 fun v H' s' sv => ?_
  obtain ⟨a, ps, h1, h2, h3⟩ := sv.str.Fw e3
  refine ⟨_, h1, ?_⟩
  refine sv.str.M7 hi.pu ok e5 fun vi H2 s2 t2 ri => ?_
  have sv2 := sv.grow s2
  have h22 := s2 _ _ h2
  obtain ⟨p', xs', q1, q2, q3, _⟩ := By.JZ sv2 e3 e10 h1 h22
  have hvi : vi = .int k := by
    cases ri with
    | int i => cases e6; rfl
    | _ => cases e6
  subst hvi
  refine .inl ⟨a, _, k, .ref p', rfl, rfl, Bg.of h22, ?_, ?_⟩
  · unfold L2.Cw
    rw [List.length_map, h3, e9]
    show (ps.map V.ref)[u]? = _
    rw [List.getElem?_map, q1]
    rfl
  · refine sv2.str.M7 hj.pu ok e7 fun vj H3 s3 t3 rj => ?_
    have hvj : vj = .int m := by
      cases rj with
      | int i => cases e8; rfl
      | _ => cases e8
    subst hvj
    have sv3 := sv2.grow s3
    obtain ⟨p2, xs2, w1, w2, w3, w4⟩ := By.JZ sv3 e3 e10 h1 (s3 _ _ h22)
    rw [q1] at w1
    cases w1
    exact ⟨p', xs2, m, j, rfl, rfl, w2, by rw [w3]; exact e11, q σ _ (w4 j)⟩⟩
def V5 (i : Nat) : Ao := fun ρ => (ρ[i]?).bind fun s => (Jy s).bind fun dss => some (.rn dss)
theorem ADM (i : Nat) {x : Str} {p pos : Pos} (hN : X.N[i]? = some x := by rfl) (hv : Fx X.env.scope x := by first | exact Or.inl rfl | exact Or.inr (Or.inl rfl) | exact Or.inr (Or.inr rfl)) (hd : (x == ("__debug__" : Str)) = false := by decide)
    (hcd : (x == ("__classdict__" : Str)) = false := by decide) : JS X K (.Return (some (.Name x p)) pos) (Vb (Dm i)) (V5 i) := ⟨W5 (JH hN hv hd hcd), by
  intro H0 O0 G σ H ρ o E ok s hf q
  obtain ⟨sl, e1, hf⟩ := Al hf
  obtain ⟨dss, e2, hf⟩ := Al hf
  cases hf
  rw [Uo e2] at e1
  obtain ⟨O, s0, n, nd, g, sl⟩ := s.ex
  obtain ⟨a, ps, h1, h2, h3, h4, h5⟩ := sl.Fw nd e1
  refine ⟨_, h1, q a ps H s0 h3 (fun b hb => n b (h2 b hb)) h4 (h5.mono (DQ fun b hb => ?_) fun _ _ _ e => e)⟩
  rcases List.mem_append.mp hb with hb | hb
  · exact Bj (h2 b hb)
  · exact Cy hb⟩
def tW (f : Es) : Ao := fun ρ => (f (full ρ)).bind fun d => some (.rn d)
def R8 (K : Frag) (n : Nat) (f : List D → Option (List (List D))) : Sp := fun vs H Q _ => vs.length = n ∧ ∃ (O : List Addr) (ds : List D) (ess : List (List D)), CP O H ∧ BL K (Ai O H) vs ds ∧ f ds = some ess ∧
  ∀ a ps H', Ak H H' → (a :: ps).Nodup → (∀ b ∈ a :: ps, H b = none) → H' a = some (.lst (ps.map V.ref)) → Inner K (Ai ((a :: ps) ++ O) H') H' ps ess → Q (.ref a) H'
def ALs : Out → Option (List (List D))
  | .rn dss => some dss
  | _ => none
def runN (n m : Nat) (F : Ao) : List D → Option (List (List D)) := fun ds => if ds.length = n then (F (GX m ds)).bind ALs else none
theorem AJS (n m : Nat) (F : Ao) : J4 n (runN n m F) := fun ds a h => by
  unfold runN at h
  by_cases hc : ds.length = n
  · exact hc
  · rw [if_neg hc] at h; cases h
def Xy (f : List D → Option (List (List D))) (r : BW) : Es := fun ρ => (r ρ).bind f
theorem AHo {k n : Nat} {x : Str} {ps : List Str} {p pos : Pos} {e : Expr} {es : List Expr} {t : TA} {r : BW} {f : List D → Option (List (List D))} (C : Callee X.prog X.w X.K X.mg X.base k x ps (R8 K n f)) (hf : J4 n f) (hr : Ck k X.A) (hg : Gl X x) (ha : JA X K (e :: es) t r) (hdb : (x == ("__debug__" : Str)) = false := by decide)
    (hst : starEach (e :: es) X.env = (false, eval e X.env) :: starEach es X.env := by rfl) (hpl : (backTo pos (starEach es X.env)).any (·.1) = false := by rfl) : JN X K (.Call (.Name x p) (e :: es) [] pos) (Uh (R8 K n f) [] E0 t) (Xy f r) := ⟨fU C hr hg ha.pe hdb hst hpl, by
  intro O σ H ρ d Q ok er h q
  obtain ⟨ds, e1, h⟩ := Al h
  refine ha.pu O σ H ρ ds _ ok er e1 fun vs H1 s1 r1 => ?_
  rw [List.append_nil]
  exact ⟨by rw [r1.length]; exact hf ds d h, O, ds, d, ok.mono s1, r1, h, fun a ps H' s' nd hn ha' rv => q a ps H' (s1.trans s') nd (fun b hb => s1.free (hn b hb)) ha' rv⟩⟩
end
section
variable {P : Program} {w : World} {K : Frag} {mg : Str → Option Value} {base : Heap}
theorem Def.AML {x : Str} {st : Stmt} {N ps : List Str} {k n m : Nat} {F : Ao} {fn : List D → Option (List (List D))} (hfn : fn = runN n m F) (D : Def K mg x st ps) (S : Bq N ps (Av st)) (hn : ps.length = n) (hm : N.length = m) (hb : ∀ (f : Addr) (cdv : Value) (A : Around) (outer : List Env) (s : Shared) (H : Hp) (E : XK), Ck k (A.deeper (envOfC x (Av st) s.heap.objs.size f cdv)) →
      ∃ t, Gu (Fo Gk P w K mg base N x (Av st) f cdv A outer s H E).Fe K (Bk st) t F) : Callee P w K mg base (k + 1) x ps (R8 K n fn) := by
  subst hfn hm
  refine D.ok S (fun vs H Q E h => by rw [h.1, hn]) fun f cdv A outer s H vs Q E hr h => ?_
  obtain ⟨t, j⟩ := hb f cdv A outer s H E hr
  refine ⟨t, j.pe, ?_⟩
  obtain ⟨hl, O, ds, d, ok, r, hf, q⟩ := h
  have hl2 : ds.length = n := by rw [← r.length]; exact hl
  unfold runN at hf
  rw [if_pos hl2] at hf
  obtain ⟨o, e1, hf⟩ := Al hf
  refine j.pu H O (Ai O H) _ H _ o _ ok (RP r N) e1 ?_
  cases o with
  | rn es => cases hf; exact fun a ps H' s' nd hn' ha r' => q a ps H' s' nd hn' ha r'
  | rl ess => cases hf
  | rp _ _ => cases hf
  | ro d e => cases hf
  | nx ρ => cases hf
  | rt d' => cases hf
  | bk ρ => cases hf
  | ct ρ => cases hf
end
def pK (i : Nat) : Ao := fun ρ => (ρ[i]?).bind fun s => (Jy s).bind fun _ => some (.nx (ρ.set i .no))
def zB (i : Nat) (fi : PF) : Ao := fun ρ => (fi (full ρ)).bind fun kd => (Jd kd).bind fun k => (ρ[i]?).bind fun s => (Jy s).bind fun dss => (Dz dss.length k).bind fun u => (dss[u]?).bind fun _ => some (.nx (ρ.set i (.on (dss.set u []))))
def sE (i j : Nat) : Ao := fun ρ => (ρ[i]?).bind fun s => (Jy s).bind fun _ => if j < ρ.length ∧ j ≠ i then some (.nx ((ρ.set i .no).set j .no)) else none
section
variable {X : Cx} {K : Frag}
theorem rE (i : Nat) {x : Str} {e ix jx : Expr} {te ti tj : TE} {f fi fj : PF} {p Dv spos pos : Pos} (he : JE X K e te f) (hK : X.K = K) (hi : JE X K ix ti fi) (hj : JE X K jx tj fj) (hsx : N5 ix) (hN : X.N[i]? = some x := by rfl) (hv : Fx X.env.scope x := by first | exact Or.inl rfl | exact Or.inr (Or.inl rfl) | exact Or.inr (Or.inr rfl)) (hd : (x == ("__debug__" : Str)) = false := by decide)
    (hcd : (x == ("__classdict__" : Str)) = false := by decide)
    (ha : ∀ v, assign (.Subscript (.Subscript (.Name x p) ix Dv) jx spos) X.env v = (do
      let ov ← holding [v] (eval (.Subscript (.Name x p) ix Dv) X.env)
      let iv ← holding [v, ov] (eval jx X.env)
      standAt spos
      holding [v, ov, iv] (setItem ov iv v)
      release [v, ov, iv] []) := by intro _; rfl)
    (hs : swapsWithSole [.Subscript (.Subscript (.Name x p) ix Dv) jx spos] e pos.line X.env = pure false := by rfl) (hw : swappedStores [.Subscript (.Subscript (.Name x p) ix Dv) jx spos] e X.env = pure none := by rfl)
    (h1 : (assignEach [.Subscript (.Subscript (.Name x p) ix Dv) jx spos] X.env).map (·.2) = [assign (.Subscript (.Subscript (.Name x p) ix Dv) jx spos) X.env] := by rfl) :
    JS X K (.Assign [.Subscript (.Subscript (.Name x p) ix Dv) jx spos] e pos) (Ff te (K9 (HB (Lx K) (Dm i) ti) tj Ka)) (Lr i fi fj (vS f)) := ABZ i he.pe (NK he.pu) hK hi hj hsx hN hv hd hcd ha hs hw h1
theorem AKE (i : Nat) {x : Str} {e ix : Expr} {te ti : TE} {f : BW} {fi : PF} {p spos pos : Pos} (he : JL X K e te f) (hi : JE X K ix ti fi) (hN : X.N[i]? = some x := by rfl) (hv : Fx X.env.scope x := by first | exact Or.inl rfl | exact Or.inr (Or.inl rfl) | exact Or.inr (Or.inr rfl)) (hd : (x == ("__debug__" : Str)) = false := by decide)
    (hcd : (x == ("__classdict__" : Str)) = false := by decide)
    (ha : ∀ v, assign (.Subscript (.Name x p) ix spos) X.env v = (do
      let ov ← holding [v] (eval (.Name x p) X.env)
      let iv ← holding [v, ov] (eval ix X.env)
      standAt spos
      holding [v, ov, iv] (setItem ov iv v)
      release [v, ov, iv] []) := by intro _; rfl)
    (hs : swapsWithSole [.Subscript (.Name x p) ix spos] e pos.line X.env = pure false := by rfl) (hw : swappedStores [.Subscript (.Name x p) ix spos] e X.env = pure none := by rfl)
    (h1 : (assignEach [.Subscript (.Name x p) ix spos] X.env).map (·.2) = [assign (.Subscript (.Name x p) ix spos) X.env] := by rfl) :
    JS X K (.Assign [.Subscript (.Name x p) ix spos] e pos) (Ff te (K9 (Dm i) ti Ka)) (Jh i fi (RC f)) := w6 i he.pe (AFS he.pu) hi hN hv hd hcd ha hs hw h1
end
def W0 (fi : BW) (bs : D → Am → Option Am) (F : Ao) : Ao := fun ρ => (fi (full ρ)).bind fun items => Ea bs F items ρ
section
variable {X : Cx} {K : Frag} {pos : Pos}
theorem AEl {J : It} {g : TG} {tb : TS} {bs : D → Am → Option Am} {F : Ao} {items : List D} {H0 : Hp} {O0 : List Addr} {G : Hp} {σ : St} {H1 : Hp} {ρ : Am} {o : Out} {E : Ends} (it : Lq K G J items) (hg : aL K g bs) (hb : Jo K tb F) (ok : CP O0 H0) (t1 : By K H0 O0 G σ H1 ρ) (hf : Ea bs F items ρ = some o) (q : YZ K H0 O0 G E o) :
    ∃ W : Nat → Nat → St → Hp → Prop, (∃ m, W 0 m σ H1) ∧ ∀ i m σ H, W i m σ H →
      (J.stop i H ∧ E.nx σ H) ∨ (J.go i H ∧ ∃ N : St → Hp → Prop, (∀ σ' H', N σ' H' → ∃ m', m' < m ∧ W (i + 1) m' σ' H') ∧ ∀ x H', J.yld i H x H' → g x σ H' fun σ2 H2 => tb { E with nx := N, ct := N, bk := E.nx } σ2 H2) := by
  refine ⟨fun i m σ H => m = items.length - i ∧ i ≤ items.length ∧ ∃ ρi, By K H0 O0 G σ H ρi ∧ Ea bs F (items.drop i) ρi = some o, ⟨items.length, by simp, Nat.zero_le _, ρ, t1, by simpa using hf⟩, ?_⟩
  rintro i m σ' H' ⟨rfl, hil, ρi, ti, hfi⟩
  obtain ⟨O', s0', n', nd', g', sl'⟩ := ti.ex
  have I := it (O0 ++ O') H' (HW ok s0' sl') g'
  by_cases hlt : i < items.length
  · refine .inr ⟨I.1 i hlt, fun σ' H' => ∃ ρ', By K H0 O0 G σ' H' ρ' ∧ Ea bs F (items.drop (i + 1)) ρ' = some o, fun σ2 H2 ⟨ρ', t', h'⟩ => ⟨items.length - (i + 1), by omega, rfl, hlt, ρ', t', h'⟩, fun x H'' y => ?_⟩
    obtain ⟨d, ed, s'', rd⟩ := I.2.1 i x H'' hlt y
    have hdrop : items.drop i = d :: items.drop (i + 1) := by
      rw [List.drop_eq_getElem_cons hlt]
      congr 1
      exact Option.some.inj ((List.getElem?_eq_getElem hlt).symm.trans ed)
    rw [hdrop] at hfi
    obtain ⟨ρ1, eb, hfi⟩ := Al hfi
    obtain ⟨o1, eo, hfi⟩ := Al hfi
    have sv : GQ K H0 O0 G σ' H'' ρi x (.sh d) := ⟨O', [], s0'.trans s'', n', nd', g'.trans (Ds s''), sl'.mono (Ds s'') fun a _ o e => s'' a o e, rfl, rd⟩
    refine hg H0 O0 _ σ' H'' ρi x d ρ1 _ sv eb fun σ2 t2 => ?_
    refine hb H0 O0 _ σ2 H'' ρ1 o1 _ ok t2 eo ?_
    cases o1 with
    | nx ρ' => exact fun σ3 H3 t3 => ⟨ρ', t3, hfi⟩
    | ct ρ' => exact fun σ3 H3 t3 => ⟨ρ', t3, hfi⟩
    | bk ρ' => cases hfi; exact fun σ3 H3 t3 => q σ3 H3 t3
    | rt d => cases hfi; exact q
    | rl d => cases hfi; exact q
    | rn d => cases hfi; exact q
    | rp d e => cases hfi; exact q
    | ro d e => cases hfi; exact q
  · have e : i = items.length := by omega
    subst e
    rw [List.drop_length] at hfi
    cases hfi
    exact .inl ⟨I.2.2, q σ' H' ti⟩
theorem AMj {tg a : Expr} {ta : TA} {r : BW} {body : List Stmt} {g : TG} {tb : TS} {bs : D → Am → Option Am} {F : Ao} {p pos' : Pos} (hp : PassesOwn (model X.prog X.w) X.A X.env X.xe) (hc : X.calm = true) (hgl : Gl X "range") (hm : X.mg "range" = none) (ha : JA X K [a] ta r) (hg : Pz X K tg g bs) (hb : Gu X K body tb F) (hst : starEach [a] X.env = [(false, eval a X.env)] := by rfl) (hs : ∀ x, foldedSetIterable (.Call (.Name "range" p) [a] [] pos') X.env x = pure x := by intro _; rfl) :
    JS X K (.For tg (.Call (.Name "range" p) [a] [] pos') body [] pos) (YJ (fZ ta) g tb) (W0 (Bm Ek r) bs F) := ⟨qN hp hc (wM hgl hm ha.pe hst) hg.pe hb.pe hs, by
  intro H0 O0 G σ H ρ o E ok s hf q
  obtain ⟨items, e1, hf⟩ := Al hf
  obtain ⟨ds, e2, e1⟩ := Al e1
  have ⟨o1, e3⟩ := s.Hj ok
  refine ha.pu O0 σ H (full ρ) ds _ o1 e3 e2 fun vs H1 s1 r1 => ?_
  unfold Ek at e1
  split at e1
  · rename_i j
    obtain ⟨v, rfl, rv⟩ := rep1 r1
    cases rv
    by_cases hc : -(2 ^ 62) ≤ j ∧ j < 2 ^ 62
    · rw [if_pos hc] at e1
      cases e1
      exact ⟨j, rfl, hc.1, hc.2, AEl nM hg.pu hb.pu ok (s.grow s1) hf q⟩
    · rw [if_neg hc] at e1
      cases e1
  · cases e1⟩
end
end L2
namespace L2
open PySem PySem.Spec PyProof.Rows
abbrev vM := Bc → Option (List D × D)
def AEy (K : Frag) (te : TE) (f : vM) : Prop := ∀ (O : List Addr) (σ : St) (H : Hp) (ρ : Bc) (ds : List D) (d : D) (Q : VK), CP O H → Dl K (Ai O H) σ ρ → f ρ = some (ds, d) →
  (∀ p a xs v H', Ak H H' → H a = none → H p = none → H' a = some (.lst xs) → H' p = some (.tup [.ref a, v]) → BL K (Ai (a :: O) H') xs ds → Rep K (Ai (a :: O) H') v d → Q (.ref p) H') → te σ H Q
structure JP (X : Cx) (K : Frag) (e : Expr) (te : TE) (f : vM) : Prop where
  pe : PE X e te
  pu : AEy K te f
end L2
namespace L2
open PySem PySem.Spec PyProof.Rows
section
variable {X : Cx} {K : Frag}
def aY : D → Option Str
  | .str z => some z
  | _ => none
theorem xT (z : Str) : aY (.str z) = some z := rfl
def oX (f : PF) (l u : Bc → Option (Option Int)) : PF := fun ρ => (f ρ).bind fun d => (l ρ).bind fun lo => (u ρ).bind fun hi => (aY d).bind fun z => if z.length ≤ sizeLine then some (.str (Txt.slice z lo hi)) else none
def AGu (x : Str) : List D := x.cps.toList.map fun c => .str ⟨#[c]⟩
def uE (f : PF) : BW := fun ρ => (f ρ).bind fun d => (aY d).bind fun z => if z.cps.all (· < 128) = true then some (AGu z) else none
end
end L2
namespace L2
open PySem PySem.Spec PyProof.Rows
section
variable {X : Cx} {K : Frag}
def AHG (a b : Str) : Prop := (b.length == 0) = false ∧ a.length ≤ sizeLine ∧ (Txt.split a b).length ≤ sizeLine
instance (a b : Str) : Decidable (AHG a b) := instDecidableAnd
end
end L2
namespace L2
open PySem PySem.Spec PyProof.Rows
section
variable {X : Cx} {K : Frag}
def ADG (x : Str) (n : Int) : Prop := 1 < n ∧ n < 1000000 ∧ x.length ≠ 0 ∧ x.length * n.toNat ≤ 1000000
instance (x : Str) (n : Int) : Decidable (ADG x n) := instDecidableAnd
end
end L2
set_option hygiene false
local macro_rules | `(tactic| walk_at "pu") => `(tactic| simp only [L2.Aw, L2.uE, L2.oX, L2.xT, L2.Lr, L2.vN, L2.V5, L2.tW, L2.Xy, L2.pH, L2.JB, L2.Vk, L2.U3, L2.pK, L2.zB, L2.sE, L2.u6, L2.yI, L2.Qn, L2.Bb, L2.vS, L2.vF, L2.vL, L2.Kd, L2.RC, L2.Ho, L2.Ae, L2.Nf, L2.Aa, L2.Ad, L2.BP, L2.Ez, L2.Gi, L2.GF, L2.Cq, L2.Gp, L2.T7, L2.WM, L2.WK, L2.Hs, L2.Ag, L2.Ab, L2.Bt, L2.CQ, L2.BV, L2.Ar, L2.Bm, L2.JR, L2.Br, L2.Hd, L2.Ma, L2.wN, L2.Cd, L2.DK, L2.mH, L2.QC, L2.Jh, L2.uV, L2.Fl, L2.Gs, L2.GC, L2.Gy, L2.Dw, L2.Ox, L2.Qd, L2.v7, L2.full, L2.masked, L2.tR,
  List.map_cons, List.map_nil, List.cons_append, List.nil_append, List.length_cons, List.length_nil, List.length_map, Nat.reduceAdd, Nat.reduceSub, Nat.zero_add, List.replicate_succ, List.replicate_zero, List.set_cons_succ, List.set_cons_zero, L2.v5, L2.oG, List.getElem?_cons_zero, List.getElem?_cons_succ, Option.join_some,
  L2.uC, L2.jO, L2.jN, L2.xM, L2.wG, L2.xJ, L2.Be, L2.uX, Option.map_some, L2.wZ, L2.Ls, L2.rW, L2.lV, L2.dD, L2.qO, L2.yK, L2.pP, L2.U9, L2.Xe, L2.kO, L2.sY, L2.V2, L2.zA, L2.oF, L2.jT, L2.qU, L2.xR, L2.Wc, L2.jP, L2.xK, L2.xG, L2.qL, L2.uZ, L2.lL,
  L2.wX, L2.iM, L2.yV, L2.jH, L2.lH, L2.u5, L2.vK, L2.iW, L2.xW, L2.jX, L2.nZ, L2.yS, L2.xP, L2.t7, L2.jA, L2.Zh, Bool.and_self, Bool.true_and, L2.nW, L2.n6, if_true, if_false, Bool.not_true, Bool.not_false, Bool.false_eq_true, L2.Vh, L2.vY, decide_true, decide_false, Bool.or_true, Bool.true_or, Bool.or_self, Bool.or_false, Bool.false_or, Bool.and_true, Bool.and_false, Bool.false_and, and_self, and_true, true_and, not_true_eq_false, not_false_eq_true, true_or, or_true, L2.Ry, L2.xU, L2.mD, L2.oR, L2.j9, L2.rJ, L2.qR, L2.jF, L2.pX, L2.rT, L2.p8, eq_self, L2.vB, L2.sH, L2.wY, L2.pZ, L2.oK, L2.bZ, L2.YS, L2.nJ, L2.kJ, L2.cJ, L2.aO, L2.aJ, L2.Ru, Int.reduceLT, Int.reduceLE, Nat.reduceLT, Nat.reduceLeDiff, Int.reduceNeg, Int.reduceAdd, Int.reduceSub, Int.reduceMul, Nat.lt_irrefl, *])
set_option hygiene true
namespace LL
open PySem L2
def W2 : Ao := (Aw (Cd (BP (Ae Ht (Aa 1) (Ar CG (Ab (Aa 0) Ag))))
      (Br (Ae Az (Aa 0) (Aa 1))) DK)
    (Br (Ad (.int 0))))
def Rk : List D → Option D := BZ 2 2 W2
def bC : Ao := (Aw (Bb 1 (vS (Ae Bl (Ae DX (Ae Df (Ae Bl (Aa 0) (Ad (.int 2147483629))) (Ad (.int 1))) (Ad (.int 1103515245))) (Ad (.int 2147483629))))) (Br (Ae Df (Ae Bl (Ae DX (Aa 1) (Aa 1)) (Ad (.int 2147483587))) (Ae DX (Ae Bl (Aa 0) (Ae Ir (Ad (.int 10)) (Ad (.int 50)))) (Ad (.int 2147483587))))))
def Jz : List D → Option D := BZ 1 2 bC
def fV : Ao := (Aw (Bb 2 (vS (Ae Bl (Ae DX (Ae Df (Ae Bl (Aa 0) (Ad (.int 2147483629))) (Ad (.int 1))) (Ad (.int 1103515245))) (Ad (.int 2147483629))))) (Aw (Bb 2 (vS (Ae Bl (Ae Df (Ae Df (Ae DX (Aa 2) (Aa 2)) (Ae DX (Aa 1) (Ad (.int 69621)))) (Ad (.int 12345))) (Ad (.int 2147483587))))) (Br (Ae Bl (Ae DX (Aa 2) (Aa 2)) (Ad (.int 2147483629))))))
def KH : List D → Option D := BZ 2 3 fV
def ZR : Ao := (Aw (Bb 1 (vS (Ar Jz (Ab (Aa 0) Ag)))) (Aw (Bb 2 (vS (Ae Az (BV (CQ (Ab (Ad (.int 0)) (Ab (Ad (.int 1)) (Ab (Ad (.int 1)) (Ab (Ad (.int 2)) (Ab (Ad (.int 2)) (Ab (Ad (.int 2)) (Ab (Ad (.int 3)) (Ab (Ad (.int 4)) Ag)))))))))) (Ae Bl (Aa 1) (Ad (.int 8)))))) (Aw (Bb 3 (vS (Ae Df (Ad (.int 1)) (Ae Bl (Ae CJ (Aa 1) (Ad (.int 8))) (Ae CJ (Ad (.int 20)) (Ae Df (Aa 2) (Ad (.int 2)))))))) (Aw (Bb 4 (vS (Ae DX (Aa 3) (Ae Df (Aa 2) (Ad (.int 2)))))) (Aw (Bb 5 (vS (Ae Az (BV (CQ (Ab (Ae Bl (Ae CJ (Aa 1) (Ad (.int 320))) (Ad (.int 4))) (Ab (Ae Bl (Ae CJ (Aa 1) (Ad (.int 320))) (Ad (.int 21))) Ag)))) (Ae Bl (Ae CJ (Aa 1) (Ad (.int 160))) (Ad (.int 2)))))) (Br (Bt (Ab (Aa 2) (Ab (Ae Df (Aa 4) (Ae Bl (Aa 5) (Ae Eu (Ad (.int 21)) (Aa 4)))) (Ab (Aa 3) Ag))))))))))
def Qe : List D → Option D := BZ 1 6 ZR
def qI : Ao := (Br (Ae Az (BV (CQ (Ab (Ad (.int 1)) (Ab (Ad (.int 2)) (Ab (Ad (.int 4)) (Ab (Ad (.int 8)) (Ab (Ad (.int 16)) Ag))))))) (Aa 0)))
def Gw : List D → Option D := BZ 1 1 qI
def tw (h : Int) : Int := 2 ^ h.toNat
theorem Yb {h : Int} (h0 : 0 ≤ h) (h4 : h ≤ 4) : (h = 0 ∧ tw h = 1) ∨ (h = 1 ∧ tw h = 2) ∨ (h = 2 ∧ tw h = 4) ∨ (h = 3 ∧ tw h = 8) ∨ (h = 4 ∧ tw h = 16) := by
  have : h = 0 ∨ h = 1 ∨ h = 2 ∨ h = 3 ∨ h = 4 := by omega
  rcases this with rfl | rfl | rfl | rfl | rfl
  · exact .inl ⟨rfl, rfl⟩
  · exact .inr (.inl ⟨rfl, rfl⟩)
  · exact .inr (.inr (.inl ⟨rfl, rfl⟩))
  · exact .inr (.inr (.inr (.inl ⟨rfl, rfl⟩)))
  · exact .inr (.inr (.inr (.inr ⟨rfl, rfl⟩)))
structure Bd (t w st : Int) : Prop where
  t0 : 0 ≤ t
  t4 : t ≤ 4
  s1 : 1 ≤ st
  lo : st * (t + 2) ≤ w
  hi : w ≤ 20
theorem Bd.w1 {t w st : Int} (b : Bd t w st) : 1 ≤ w := by
  have : st * 1 ≤ st * (t + 2) := Int.mul_le_mul_of_nonneg_left (by have := b.t0; omega) (by have := b.s1; omega)
  have := b.lo; have := b.s1; omega
def keysOf (ts : List Thing) : List Int := ts.filterMap fun t => t.map (·.1)
def Ef (ts : List Thing) : Prop := (keysOf ts).Pairwise (· < ·)
theorem Jb {α : Type} (xs : List α) {i : Int} (h0 : 0 ≤ i) (h1 : i < xs.length) : ∃ v, v ∈ xs ∧ Cw xs i = some v := by
  obtain ⟨j, rfl⟩ : ∃ j : Nat, i = (j : Int) := ⟨i.toNat, by omega⟩
  have hj : j < xs.length := by omega
  exact ⟨xs[j], List.getElem_mem hj, by rw [LK]; simp [hj]⟩
theorem ACT (ns : List Int) {k : Int} (hk : 0 ≤ k) : ∃ c, Rk [.list (ns.map .int), .int k] = some (.int c) := by
  by_cases h : k < (ns.map PyData.int).length
  · obtain ⟨v, hv, ev⟩ := Jb (ns.map PyData.int) hk h
    obtain ⟨c, _, rfl⟩ := List.mem_map.mp hv
    refine ⟨c, Cr (o := .rt (.int c)) rfl ?_ rfl⟩
    rw [List.length_map] at h
    clear hv
    unfold W2
    walk_at "pu"
  · refine ⟨0, Cr (o := .rt (.int 0)) rfl ?_ rfl⟩
    rw [List.length_map] at h
    unfold W2
    walk_at "pu"
theorem Ej (a : Int) {b : Int} (h : 0 < b) : 0 ≤ a % b ∧ a % b < b := ⟨Int.emod_nonneg _ (Int.ne_of_gt h), Int.emod_lt_of_pos _ h⟩
theorem TV (c : Int) : ∃ z, Jz [.int c] = some (.int z) ∧ 0 ≤ z := by
  have h1 := Ej ((c % 2147483629 + 1) * 1103515245) (b := 2147483629) (by decide)
  have s1 : -18446744073709551616 < (c % 2147483629 + 1) * 1103515245 % 2147483629 ∧ (c % 2147483629 + 1) * 1103515245 % 2147483629 < 18446744073709551616 := ⟨by omega, by omega⟩
  refine ⟨(c % 2147483629 + 1) * 1103515245 % 2147483629 * ((c % 2147483629 + 1) * 1103515245 % 2147483629) % 2147483587 + c % G9 50 * 2147483587, Cr (o := .rt (.int _)) rfl ?_ rfl, ?_⟩
  · unfold bC
    walk_at "pu"
  · have := Ej ((c % 2147483629 + 1) * 1103515245 % 2147483629 * ((c % 2147483629 + 1) * 1103515245 % 2147483629)) (b := 2147483587) (by decide)
    have := Ej c (b := G9 50) (V2 _)
    omega
theorem Z2 (c k : Int) : ∃ z, KH [.int c, .int k] = some (.int z) ∧ 0 ≤ z := by
  have h1 := Ej ((c % 2147483629 + 1) * 1103515245) (b := 2147483629) (by decide)
  have s1 : -18446744073709551616 < (c % 2147483629 + 1) * 1103515245 % 2147483629 ∧ (c % 2147483629 + 1) * 1103515245 % 2147483629 < 18446744073709551616 := ⟨by omega, by omega⟩
  generalize hn : (c % 2147483629 + 1) * 1103515245 % 2147483629 = n at *
  have h2 := Ej (n * n + k * 69621 + 12345) (b := 2147483587) (by decide)
  have s2 : -18446744073709551616 < (n * n + k * 69621 + 12345) % 2147483587 ∧ (n * n + k * 69621 + 12345) % 2147483587 < 18446744073709551616 := ⟨by omega, by omega⟩
  refine ⟨(n * n + k * 69621 + 12345) % 2147483587 * ((n * n + k * 69621 + 12345) % 2147483587) % 2147483629, Cr (o := .rt (.int _)) rfl ?_ rfl, (Ej _ (by decide)).1⟩
  unfold fV
  walk_at "pu"
theorem Xm {h : Int} (h0 : 0 ≤ h) (h4 : h ≤ 4) : Gw [.int h] = some (.int (tw h)) := by
  rcases Yb h0 h4 with ⟨rfl, e⟩ | ⟨rfl, e⟩ | ⟨rfl, e⟩ | ⟨rfl, e⟩ | ⟨rfl, e⟩ <;> rw [e] <;> rfl
theorem AAl (c : Int) : ∃ t w st, Qe [.int c] = some (.tuple [.int t, .int w, .int st]) ∧ Bd t w st := by
  obtain ⟨n, hn, _⟩ := TV c
  have m8 := Ej n (b := 8) (by decide)
  obtain ⟨v, hv, ev⟩ := Jb ([.int 0, .int 1, .int 1, .int 2, .int 2, .int 2, .int 3, .int 4] : List D) (i := n % 8) m8.1 m8.2
  obtain ⟨t, rfl, t0, t4⟩ : ∃ t : Int, v = .int t ∧ 0 ≤ t ∧ t ≤ 4 := by
    simp only [List.mem_cons, List.mem_nil_iff, or_false] at hv
    rcases hv with e | e | e | e | e | e | e | e <;> exact ⟨_, e, by decide, by decide⟩
  have d20 : 0 < 20 / (t + 2) ∧ (20 / (t + 2)) * (t + 2) ≤ 20 ∧ 20 / (t + 2) < 1073741824 := by
    have : t = 0 ∨ t = 1 ∨ t = 2 ∨ t = 3 ∨ t = 4 := by omega
    rcases this with rfl | rfl | rfl | rfl | rfl <;> decide
  have q0 := Ej (n / 8) d20.1
  have h1 : (1 + n / 8 % (20 / (t + 2))) ≤ 20 / (t + 2) := by omega
  have h2 : (1 + n / 8 % (20 / (t + 2))) * (t + 2) ≤ (20 / (t + 2)) * (t + 2) := Int.mul_le_mul_of_nonneg_right h1 (by omega)
  have m2 := Ej (n / 160) (b := 2) (by decide)
  obtain ⟨v, hv, ev2⟩ := Jb ([.int (n / 320 % 4), .int (n / 320 % 21)] : List D) (i := n / 160 % 2) m2.1 m2.2
  obtain ⟨mo, rfl⟩ : ∃ mo : Int, v = .int mo := by
    simp only [List.mem_cons, List.mem_nil_iff, or_false] at hv
    rcases hv with e | e <;> exact ⟨_, e⟩
  have G3 : (1 + n / 8 % (20 / (t + 2))) * 1 ≤ (1 + n / 8 % (20 / (t + 2))) * (t + 2) := Int.mul_le_mul_of_nonneg_left (by omega) (by omega)
  have s3 : -18446744073709551616 < 1 + n / 8 % (20 / (t + 2)) ∧ 1 + n / 8 % (20 / (t + 2)) < 18446744073709551616 := ⟨by omega, by omega⟩
  have s4 : 0 < t + 2 ∧ t + 2 < 1073741824 := ⟨by omega, by omega⟩
  have s5 : 0 < 21 - (1 + n / 8 % (20 / (t + 2))) * (t + 2) := by omega
  have q1 := Ej mo (b := 21 - (1 + n / 8 % (20 / (t + 2))) * (t + 2)) (by omega)
  refine ⟨t, (1 + n / 8 % (20 / (t + 2))) * (t + 2) + mo % (21 - (1 + n / 8 % (20 / (t + 2))) * (t + 2)), 1 + n / 8 % (20 / (t + 2)), Cr (o := .rt (.tuple _)) rfl ?_ rfl, ⟨t0, t4, by omega, by omega, by omega⟩⟩
  clear hv h1 h2 G3 q1 q0
  unfold ZR
  walk_at "pu"
end LL
namespace LL
open PySem L2
def aB : Ao := (Aw (Bb 1 (Ho (Ca (Dw (Aa 0)) (Cg 0) (BP (Ae Cm (Aa 0) (Bt Ag))) (Ae Az (Aa 0) (Ad (.int 0))) 1 []))) (Br (Ar KJ (Ab (BV (Ca (Bm Q8 (Ab (Aa 1) (Ab (BV (Fl (Aa 1) (GC (Ad (.int 1))) Gs)) Ag))) (Km 0 1) Cq (Ae Ht (Aa 0) (Aa 1)) 2 [])) Ag))))
def Ro : List D → Option D := BZ 1 2 aB
def JQ : Ao := (Aw (Cd (Gi (BP (Ae Cm (Aa 3) (Bt Ag))) (BP (Ae Bx (Aa 3) (Aa 1))))
        (Br (Aa 2)) DK)
      (Cd (BP (Ae Cm (Aa 3) (Bt Ag)))
        (Bb 1 (vS (Aa 3))) DK))
def Wu : Ao := (Aw (Bb 1 (vS (Bt Ag))) (Aw (J2 (Bm Sy (Ab (Aa 0) Ag)) (Ha 2 3) JQ) (Br (Ad .none))))
def Il : List D → Option D := BZ 1 4 Wu
def gP : Ao := (Jh 2 (Aa 3) (vS (Aa 4)))
def cC : Ao := (Aw (Bb 2 (vL (Bm Fy (Ab (Aa 0) Ag)))) (Aw (J2 (Dw (Aa 1)) (Ha 3 4) gP) (Ma 2)))
def Oa : List D → Option (List D) := Dh 2 5 cC
def Zd : Ao := (Aw (Bb 1 (vS (Ar Il (Ab (Aa 0) Ag)))) (Aw (Cd (BP (Ae Ry (Aa 1) (Ad .none)))
      (Hd (Bm Fy (Ab (Aa 0) Ag))) DK)
    (Hd (Bm Oa (Ab (Aa 0) (Ab (BV (CQ (Ab (Bt (Ab (Aa 1) (Ab (Bt Ag) Ag))) Ag))) Ag))))))
def M3 : List D → Option (List D) := Dh 1 2 Zd
def Zn : Ao := (Hd (Ca (Dw (BV (Bm M3 (Ab (Aa 0) Ag)))) (Cg 0) (BP (Ae Cm (Aa 0) (Bt Ag))) (Aa 0) 1 []))
def MN : List D → Option (List D) := Dh 1 1 Zn
def dO : Ao := (Br (Ar Ro (Ab (BV (Bm M3 (Ab (Aa 0) Ag))) Ag)))
def Qz : List D → Option D := BZ 1 1 dO
def ZS : Ao := (Br (Ar CG (Ab (BV (Ca (Bm Sy (Ab (Aa 0) Ag)) (Km 0 1) (Gi (BP (Hs HF Ht (Aa 2) (Aa 0) (Aa 3))) (BP (Ae Cm (Aa 1) (Bt Ag)))) (Aa 1) 2 [1, 2])) Ag)))
def J7 : List D → Option D := BZ 3 3 ZS
def things (ts : List Thing) : List (Int × Int) := ts.filterMap id
theorem dG (ts : List Thing) : keysOf ts = (things ts).map (·.1) := by
  unfold keysOf things
  rw [List.map_filterMap]
  rfl
theorem Yy (a b : List Thing) : things (a ++ b) = things a ++ things b := List.filterMap_append
theorem aZ (a : List Thing) : things (none :: a) = things a := rfl
theorem aK (x : Int × Int) (a : List Thing) : things (some x :: a) = x :: things a := rfl
theorem lX (a b : List Thing) : keysOf (a ++ b) = keysOf a ++ keysOf b := List.filterMap_append
theorem Z3 (x : Int × Int) (a : List Thing) : keysOf (some x :: a) = x.1 :: keysOf a := rfl
theorem Ly {n j : Nat} (h : j < n) : Dz n (j : Int) = some j := by
  unfold Dz
  rw [if_pos (by omega), if_pos (by omega)]
  simp
def Iu (q : Nat × Thing) : D := .tuple [.int (q.1 : Nat), encD q.2]
def doneF (ts : List Thing) (ws : List (Nat × Thing)) : List Thing := ws.foldl (fun l q => l.set q.1 q.2) ts
theorem AGx (ts : List Thing) (ws : List (Nat × Thing)) (h : ∀ q ∈ ws, q.1 < ts.length) : Oa [.list (ts.map encD), .list (ws.map Iu)] = some ((doneF ts ws).map encD) := by
  have loop := V8 (bs := Ha 3 4) (F := gP) Iu (fun (us : List Thing) ρ => us.length = ts.length ∧ ∃ s3 s4, ρ = [.sh (.list (ts.map encD)), .sh (.list (ws.map Iu)), .ow (us.map encD), s3, s4]) (fun l q => l.set q.1 q.2) ws ?_ ts
    [.sh (.list (ts.map encD)), .sh (.list (ws.map Iu)), .ow (ts.map encD), .no, .no] ⟨rfl, .no, .no, rfl⟩
  · obtain ⟨ρ', hf, _, s3, s4, rfl⟩ := loop
    refine Hy rfl ?_
    unfold cC
    refine BJ (ρ' := [.sh (.list (ts.map encD)), .sh (.list (ws.map Iu)), .ow (ts.map encD), .no, .no]) (by walk_at "pu") ?_
    exact BJ ((SJ (items := ws.map Iu) (by walk_at "pu")).trans hf) (by walk_at "pu"; rfl)
  · rintro us ρ q hq ⟨hl, s3, s4, rfl⟩
    have hi := Ly (n := ts.length) (j := q.1) (h q hq)
    refine ⟨_, [.sh (.list (ts.map encD)), .sh (.list (ws.map Iu)), .ow ((us.map encD).set q.1 (encD q.2)), .sh (.int (q.1 : Nat)), .sh (encD q.2)], rfl, ?_, by simp [hl], .sh (.int (q.1 : Nat)), .sh (encD q.2), by rw [List.map_set]⟩
    unfold gP
    walk_at "pu"
def Dr (last : Thing) : Nat → List Thing → Option Nat
  | _, [] => none
  | i, none :: r => Dr last (i + 1) r
  | i, some x :: r => if some x = last then some i else Dr (some x) (i + 1) r
def AEe : Option Nat → D
  | none => .none
  | some n => .int (n : Nat)
theorem gO (L : D) : ∀ (ts : List Thing) (i : Nat) (last : Thing) (s2 s3 : Sl),
    match Dr last i ts with
    | some p => Ea (Ha 2 3) JQ (((ts.map encD).zipIdx i).map fun p => .tuple [.int (p.2 : Nat), p.1]) [.sh L, .sh (encD last), s2, s3] = some (.rt (.int (p : Nat)))
    | none => ∃ l' s2' s3', Ea (Ha 2 3) JQ (((ts.map encD).zipIdx i).map fun p => .tuple [.int (p.2 : Nat), p.1]) [.sh L, .sh (encD last), s2, s3] = some (.nx [.sh L, .sh l', s2', s3'])
  | [], i, last, s2, s3 => ⟨_, _, _, rfl⟩
  | none :: r, i, last, s2, s3 => by
    have ih := gO L r (i + 1) last (.sh (.int (i : Nat))) (.sh (encD none))
    have step : Ea (Ha 2 3) JQ ((((none :: r).map encD).zipIdx i).map fun p => .tuple [.int (p.2 : Nat), p.1]) [.sh L, .sh (encD last), s2, s3] = Ea (Ha 2 3) JQ (((r.map encD).zipIdx (i + 1)).map fun p => .tuple [.int (p.2 : Nat), p.1]) [.sh L, .sh (encD last), .sh (.int (i : Nat)), .sh (encD none)] := by
      rw [List.map_cons, List.zipIdx_cons, List.map_cons]
      refine YL rfl ?_
      unfold JQ
      walk_at "pu"
    rw [step]
    exact ih
  | some x :: r, i, last, s2, s3 => by
    by_cases hx : some x = last
    · have e : Dr last i (some x :: r) = some i := if_pos hx
      rw [e]
      show Ea _ _ _ _ = _
      rw [List.map_cons, List.zipIdx_cons, List.map_cons]
      refine ABG rfl ?_
      have hn : ¬ some x = none := by simp
      subst hx
      unfold JQ
      walk_at "pu"
    · have e : Dr last i (some x :: r) = Dr (some x) (i + 1) r := if_neg hx
      rw [e]
      have ih := gO L r (i + 1) (some x) (.sh (.int (i : Nat))) (.sh (encD (some x)))
      have step : Ea (Ha 2 3) JQ ((((some x :: r).map encD).zipIdx i).map fun p => .tuple [.int (p.2 : Nat), p.1]) [.sh L, .sh (encD last), s2, s3] = Ea (Ha 2 3) JQ (((r.map encD).zipIdx (i + 1)).map fun p => .tuple [.int (p.2 : Nat), p.1]) [.sh L, .sh (encD (some x)), .sh (.int (i : Nat)), .sh (encD (some x))] := by
        rw [List.map_cons, List.zipIdx_cons, List.map_cons]
        refine YL rfl ?_
        have hn : ¬ some x = none := by simp
        clear ih e
        unfold JQ
        walk_at "pu"
      rw [step]
      exact ih
theorem oZ (ts : List Thing) : Il [.list (ts.map encD)] = some (AEe (Dr none 0 ts)) := by
  have lp := gO (.list (ts.map encD)) ts 0 none .no .no
  have hb : Wu (GX 4 [.list (ts.map encD)]) = (Ea (Ha 2 3) JQ (((ts.map encD).zipIdx 0).map fun p => .tuple [.int (p.2 : Nat), p.1]) [.sh (.list (ts.map encD)), .sh (encD none), .no, .no]).bind fun o => match o with
      | .nx ρ' => Br (Ad .none) ρ'
      | .rt d => some (.rt d)
      | .rl d => some (.rl d)
      | .rn d => some (.rn d)
      | .rp d e => some (.rp d e)
      | .ro d e => some (.ro d e)
      | .bk ρ' => some (.bk ρ')
      | .ct ρ' => some (.ct ρ') := by
    unfold Wu
    refine BJ (ρ' := [.sh (.list (ts.map encD)), .sh (.tuple []), .no, .no]) (by walk_at "pu") ?_
    unfold Aw
    rw [SJ (items := Jv (ts.map encD)) (by walk_at "pu")]
    rfl
  cases hs : Dr none 0 ts with
  | some p =>
    rw [hs] at lp
    have lp' : Ea _ _ _ _ = _ := lp
    refine Cr rfl (hb.trans ?_) (o := .rt (.int (p : Nat))) rfl
    rw [lp']
    rfl
  | none =>
    rw [hs] at lp
    obtain ⟨l', s2', s3', lp⟩ := lp
    refine Cr rfl (hb.trans ?_) (o := .rt .none) rfl
    rw [lp]
    rfl
theorem Z6 (ts : List Thing) : ∀ (i : Nat) (last : Thing) (p : Nat), Dr last i ts = some p → i ≤ p ∧ p < i + ts.length := by
  induction ts with
  | nil => intro i last p h; cases h
  | cons t r ih =>
    intro i last p h
    cases t with
    | none => have := ih (i + 1) last p h; simp; omega
    | some x =>
      unfold Dr at h
      by_cases hx : some x = last
      · rw [if_pos hx] at h; cases h; simp
      · rw [if_neg hx] at h; have := ih (i + 1) (some x) p h; simp; omega
def Ci (ts : List Thing) : List Thing := match Dr none 0 ts with
  | none => ts
  | some p => ts.set p none
theorem uF (ts : List Thing) : M3 [.list (ts.map encD)] = some ((Ci ts).map encD) := by
  have hs := oZ ts
  refine Hy rfl ?_
  unfold Zd Ci
  cases h : Dr none 0 ts with
  | none =>
    rw [h] at hs
    have hs' : Il [.list (ts.map encD)] = some .none := hs
    clear hs
    walk_at "pu"
  | some p =>
    rw [h] at hs
    have hs' : Il [.list (ts.map encD)] = some (.int (p : Nat)) := hs
    have hd : Oa [.list (ts.map encD), .list [.tuple [.int (p : Nat), .tuple []]]] = some ((ts.set p none).map encD) := AGx ts [(p, none)] fun q hq => by
      rw [List.mem_singleton.mp hq]
      have := Z6 ts 0 none p h
      show p < _
      omega
    clear hs
    walk_at "pu"
def Eg (t : Thing) : Bool := !decide (t = none)
theorem tZ (ts : List Thing) (hl : ts.length < 16777216) : MN [.list (ts.map encD)] = some (((Ci ts).filter Eg).map encD) := by
  refine Hy rfl ?_
  have hm := uF ts
  have hl2 : (Ci ts).length < 16777216 := by
    unfold Ci
    split
    · exact hl
    · simpa using hl
  unfold Zn Hd
  rw [Hb (items := (Ci ts).map encD) (by walk_at "pu") (by simpa using hl2)]
  rw [Pu encD Eg encD]
  · rfl
  · intro t _
    refine ⟨_, rfl, ?_, fun _ => rfl⟩
    show BP _ [some (encD t)] = some (!decide (t = none))
    walk_at "pu"
theorem ANL (ts : List Thing) : (ts.filter Eg).map (fun t : Thing => PyData.int ((t.getD (0, 0)).1)) = (keysOf ts).map PyData.int := by
  induction ts with
  | nil => rfl
  | cons t r ih =>
    cases t with
    | none => exact ih
    | some x => rw [Z3, List.map_cons, ← ih]; rfl
theorem jB : ∀ K : List Int, ((K.zip (K.drop 1)).map fun p => decide (p.1 < p.2)).all id = decide (K.Pairwise (· < ·))
  | [] => by simp
  | [a] => by simp
  | a :: b :: r => by
    have ih := jB (b :: r)
    have e : ((a :: b :: r).zip ((a :: b :: r).drop 1)) = (a, b) :: ((b :: r).zip ((b :: r).drop 1)) := rfl
    rw [e, List.map_cons, List.all_cons, ih]
    rw [Bool.eq_iff_iff]
    simp only [id, Bool.and_eq_true, decide_eq_true_eq]
    rw [List.pairwise_cons (a := a)]
    constructor
    · rintro ⟨h1, h2⟩
      refine ⟨fun c hc => ?_, h2⟩
      rcases List.mem_cons.mp hc with rfl | hc
      · exact h1
      · have := (List.pairwise_cons.mp h2).1 c hc
        omega
    · rintro ⟨h1, h2⟩
      exact ⟨h1 b Bp, h2⟩
theorem m6 (bs : List Bool) : PL (bs.map PyData.bool) = some bs := by
  induction bs with
  | nil => rfl
  | cons b r ih => simp only [List.map_cons, PL, ih, Be]
theorem AFM (xs : List D) : cutD xs (some 1) none = xs.drop 1 := by
  unfold cutD
  cases xs with
  | nil => rfl
  | cons x r =>
    have e1 : HT.Di (x :: r).length 0 (some 1) = 1 := by simp [HT.Di]
    have e2 : HT.Di (x :: r).length (x :: r).length none = (x :: r).length := by simp [HT.Di]
    rw [e1, e2]
    rw [List.take_of_length_le (by simp)]
theorem ADd (a b : List Int) : MJ (a.map PyData.int) (b.map PyData.int) = (a.zip b).map fun p => .tuple [.int p.1, .int p.2] := by
  unfold MJ
  rw [List.zipWith_map, List.zip_eq_zipWith, List.map_zipWith]
instance (ts : List Thing) : Decidable (Ef ts) := inferInstanceAs (Decidable ((keysOf ts).Pairwise (· < ·)))
theorem AI5 (ts : List Thing) (hl : ts.length < 16777216) : Ro [.list (ts.map encD)] = some (.bool (decide (Ef ts))) := by
  have hk : (keysOf ts).length < 16777216 := Nat.lt_of_le_of_lt (List.length_filterMap_le _ _) hl
  refine Cr (o := .rt (.bool (decide (Ef ts)))) rfl ?_ rfl
  unfold aB
  refine BJ (ρ' := [.sh (.list (ts.map encD)), .sh (.list ((keysOf ts).map PyData.int))]) ?_ ?_
  · have hc : Ca (Dw (Aa 0)) (Cg 0) (BP (Ae Cm (Aa 0) (Bt Ag))) (Ae Az (Aa 0) (Ad (.int 0))) 1 [] [some (.list (ts.map encD)), none] = some ((keysOf ts).map PyData.int) := by
      rw [Hb (items := ts.map encD) rfl (by simpa using hl), Pu encD Eg (fun t : Thing => PyData.int ((t.getD (0, 0)).1)), ANL]
      intro t _
      refine ⟨_, rfl, ?_, fun h => ?_⟩
      · show BP _ [some (encD t)] = some (!decide (t = none))
        walk_at "pu"
      · cases t with
        | none => cases h
        | some x => obtain ⟨k, w⟩ := x; rfl
    walk_at "pu"
  · have hc : Ca (Bm Q8 (Ab (Aa 1) (Ab (BV (Fl (Aa 1) (GC (Ad (.int 1))) Gs)) Ag))) (Km 0 1) Cq (Ae Ht (Aa 0) (Aa 1)) 2 [] [some (.list (ts.map encD)), some (.list ((keysOf ts).map PyData.int))] = some (((keysOf ts).zip ((keysOf ts).drop 1)).map fun p => .bool (decide (p.1 < p.2))) := by
      have hz : (Bm Q8 (Ab (Aa 1) (Ab (BV (Fl (Aa 1) (GC (Ad (.int 1))) Gs)) Ag))) [some (.list (ts.map encD)), some (.list ((keysOf ts).map PyData.int))] = some (((keysOf ts).zip ((keysOf ts).drop 1)).map fun p => .tuple [.int p.1, .int p.2]) := by
        rw [← ADd, List.map_drop, ← AFM]
        walk_at "pu"
      rw [Hb hz (by rw [List.length_map, List.length_zip]; omega), Oj (fun p : Int × Int => .tuple [.int p.1, .int p.2]) (fun p : Int × Int => .bool (decide (p.1 < p.2)))]
      intro p _
      exact ⟨_, rfl, rfl⟩
    have hg : KJ [.list (((keysOf ts).zip ((keysOf ts).drop 1)).map fun p => .bool (decide (p.1 < p.2)))] = some (.bool (decide (Ef ts))) := by
      have e : (((keysOf ts).zip ((keysOf ts).drop 1)).map fun p => PyData.bool (decide (p.1 < p.2))) = (((keysOf ts).zip ((keysOf ts).drop 1)).map fun p => decide (p.1 < p.2)).map PyData.bool := by rw [List.map_map]; rfl
      rw [e]
      show (PL _).bind _ = _
      rw [m6, Be, jB]
      rfl
    walk_at "pu"
theorem ALK (ts : List Thing) : (Ci ts).length = ts.length := by
  unfold Ci
  split
  · rfl
  · simp
theorem z6 (ts : List Thing) (hl : ts.length < 16777216) : Qz [.list (ts.map encD)] = some (.bool (decide (Ef (Ci ts)))) := by
  have h1 := uF ts
  have h2 := AI5 (Ci ts) (by rw [ALK]; exact hl)
  refine Cr (o := .rt (.bool (decide (Ef (Ci ts))))) rfl ?_ rfl
  unfold dO
  walk_at "pu"
theorem AIi {α : Type} (f : α → D) (xs : List α) (lo hi : Option Int) : ∃ ys : List α, cutD (xs.map f) lo hi = ys.map f ∧ ys.length ≤ xs.length := by
  refine ⟨(xs.drop (HT.Di xs.length 0 lo)).take (HT.Di xs.length xs.length hi - HT.Di xs.length 0 lo), ?_, ?_⟩
  · unfold cutD
    rw [List.length_map, List.map_take, List.map_drop]
  · rw [List.length_take, List.length_drop]
    omega
theorem qG (ts : List Thing) (hl : ts.length < 16777216) {fi : BW} {ρ : Bc} (h : fi ρ = some (ts.map encD)) : Ca fi (Cg 0) (BP (Ae Cm (Aa 0) (Bt Ag))) (Aa 0) 1 [] ρ = some ((ts.filter Eg).map encD) := by
  rw [Hb h (by simpa using hl), Pu encD Eg encD]
  intro t _
  refine ⟨_, rfl, ?_, fun _ => rfl⟩
  show BP _ [some (encD t)] = some (!decide (t = none))
  walk_at "pu"
end LL
namespace LL
open PySem L2
abbrev Pr := Int × Int
abbrev PP := List (Nat × Pr)
def Ep : Nat → List Thing → PP
  | _, [] => []
  | k, none :: r => Ep (k + 1) r
  | k, some x :: r => (k, x) :: Ep (k + 1) r
theorem Xc : ∀ (s : List Thing) (k : Nat), ∀ p ∈ Ep k s, k ≤ p.1 ∧ p.1 < k + s.length
  | [], k, p, h => by cases h
  | none :: r, k, p, h => by
    have := Xc r (k + 1) p h
    simp; omega
  | some x :: r, k, p, h => by
    rcases List.mem_cons.mp h with rfl | h
    · simp
    · have := Xc r (k + 1) p h
      simp; omega
theorem Yo : ∀ (s : List Thing) (k : Nat), (Ep k s).map (·.2) = things s
  | [], _ => rfl
  | none :: r, k => Yo r (k + 1)
  | some x :: r, k => by
    show x :: (Ep (k + 1) r).map (·.2) = x :: things r
    rw [Yo r (k + 1)]
structure Mv (s : List Thing) (c a : Nat) (x : Pr) (L R : PP) : Prop where
  eq : Ep 0 s = L ++ (c, x) :: R
  ne : c ≠ a
  lt : a < s.length
  lo : ∀ p ∈ L, p.1 < c ∧ p.1 < a
  hi : ∀ p ∈ R, c < p.1 ∧ a < p.1
abbrev Tr := Nat × Nat × Pr
def iU (s : List Thing) (t : Tr) : List Thing := (s.set t.2.1 (some t.2.2)).set t.1 none
inductive Run (P : List Thing → Tr → Prop) : List Thing → List Tr → List Thing → Prop
  | nil (s : List Thing) : Run P s [] s
  | cons {s s' : List Thing} {t : Tr} {l : List Tr} : P s t → Run P (iU s t) l s' → Run P s (t :: l) s'
def Up (l : List Tr) : Prop := l.Pairwise fun a b => a.1 < b.1 ∧ a.2.1 < b.2.1
end LL
namespace LL
open PySem L2
def DN (x : Pr) : D := .tuple [.int x.1, .int x.2]
theorem Wm (ts : List Thing) : (ts.filter Eg).map encD = (things ts).map DN := by
  induction ts with
  | nil => rfl
  | cons t r ih =>
    cases t with
    | none => exact ih
    | some x => rw [aK, List.map_cons, ← ih]; rfl
theorem qY (X : List Pr) : X.map DN = (X.map some).map encD := by rw [List.map_map]; rfl
theorem zF (X Y : List Pr) : Cm (.list (X.map DN)) (.list (Y.map DN)) = some (.bool (!decide (X = Y))) := by
  rw [qY, qY, aO]
  have e : (X.map some = Y.map some) ↔ X = Y := List.map_inj_right (fun _ _ h => Option.some.inj h)
  rw [decide_eq_decide.mpr e]
def ddF (acc : List Pr) (x : Pr) : List Pr := if acc.getLast? = some x then acc else acc ++ [x]
def dd (X : List Pr) : List Pr := X.foldl ddF []
def zH (X : List Pr) : Prop := (X.map (·.1)).Pairwise (· < ·)
instance (X : List Pr) : Decidable (zH X) := inferInstanceAs (Decidable ((X.map (·.1)).Pairwise (· < ·)))
end LL
namespace LL
open PySem L2
structure Gn {α : Type} [DecidableEq α] (e : α → D) (n : Nat) : Prop where
  lay : ∀ a, (e a).canLay0 = true
  dep : ∀ a, (e a).depth ≤ n
  eqv : ∀ a b, PyData.eqv (e a) (e b) = decide (a = b)
section
variable {α β : Type} [DecidableEq α] [DecidableEq β] {e : α → D} {f : β → D} {n m : Nat}
theorem Gn.shaped (h : Gn e n) (hn : n ≤ 64) (a : α) : SeqAt.shaped (e a) = true := by
  unfold SeqAt.shaped
  rw [h.lay a, Bool.true_and]
  exact decide_eq_true (Nat.le_trans (h.dep a) hn)
theorem Gn.Cm (h : Gn e n) (hn : n ≤ 64) (a b : α) : L2.Cm (e a) (e b) = some (.bool (!decide (a = b))) := by
  unfold L2.Cm
  rw [if_pos ⟨h.shaped hn a, h.shaped hn b⟩, h.eqv]
theorem Gn.all (h : Gn e n) : ∀ xs : List α, PyData.canLayAll0 (xs.map e) = true ∧ PyData.depthAll (xs.map e) ≤ n
  | [] => by simp [PyData.canLayAll0, PyData.depthAll]
  | x :: r => by
    have h2 := Gn.all h r
    simp only [List.map_cons, PyData.canLayAll0, PyData.depthAll, h.lay x, h2.1, Bool.and_self, true_and]
    have := h.dep x
    have := h2.2
    omega
theorem Gn.eqvAll (h : Gn e n) : ∀ xs ys : List α, PyData.eqvAll (xs.map e) (ys.map e) = decide (xs = ys)
  | [], [] => by simp [PyData.eqvAll]
  | [], _ :: _ => by simp [PyData.eqvAll]
  | _ :: _, [] => by simp [PyData.eqvAll]
  | x :: r, y :: q => by
    simp only [List.map_cons, PyData.eqvAll, h.eqv, Gn.eqvAll h r q]
    by_cases h1 : x = y <;> by_cases h2 : r = q <;> simp [h1, h2]
theorem Gn.list (h : Gn e n) : Gn (fun xs : List α => PyData.list (xs.map e)) (n + 1) :=
  ⟨fun xs => by simp only [PyData.canLay0]; exact (h.all xs).1, fun xs => by simp only [PyData.depth]; have := (h.all xs).2; omega, fun xs ys => by simp only [PyData.eqv]; exact h.eqvAll xs ys⟩
end
def Gb (n : Nat) : D := .int (n : Int)
theorem ANe : Gn encD 1 := ⟨fun t => (XD t).1, fun t => (XD t).2, XF⟩
theorem tL : ∀ (ts : List Thing) (k : Nat), ((List.range' k ts.length).filter fun i => Eg (ts.getD (i - k) none)) = (Ep k ts).map (·.1)
  | [], _ => rfl
  | t :: r, k => by
    rw [List.length_cons, List.range'_succ, List.filter_cons]
    have ih := tL r (k + 1)
    have e : (List.range' (k + 1) r.length).filter (fun i => Eg ((t :: r).getD (i - k) none)) = (List.range' (k + 1) r.length).filter (fun i => Eg (r.getD (i - (k + 1)) none)) := by
      apply List.filter_congr
      intro i hi
      have := List.mem_range'.mp hi
      obtain ⟨j, hj, rfl⟩ := this
      have e1 : k + 1 + 1 * j - k = j + 1 := by omega
      have e2 : k + 1 + 1 * j - (k + 1) = j := by omega
      rw [e1, e2]
      rfl
    rw [e, ih, Nat.sub_self]
    cases t with
    | none => rfl
    | some x => rfl
structure AOq (s : List Thing) (t : Tr) : Prop where
  free : s[t.2.1]? = some none
  lt : t.2.1 < s.length
  here : s[t.1]? = some (some t.2.2)
  mid : dd (things (s.set t.2.1 (some t.2.2))) = things s
  few : (things (s.set t.2.1 (some t.2.2))).length = (things s).length + 1
  fin : things (iU s t) = things s
end LL
namespace LKa
open PySem L2
def ZM : Ao := (Aw (Bb 2 (Ho (Ca (Dw (Aa 0)) (Cg 0) (BP (Ae Cm (Aa 0) (Bt Ag))) (Aa 0) 1 []))) (Aw (Bb 3 (vS (Ae Bl (Aa 1) (Ae Ir (Ad (.int 10)) (Ad (.int 58)))))) (Aw (Cd (GF (BP (Ae Bx (Aa 2) (BV (CQ Ag)))) (BP (Ae Bx (Ae Bl (Aa 1) (Ad (.int 5))) (Ad (.int 4)))))
      (Br (Ae Az (BV (CQ (Ab (Aa 3) (Ab (Nf Q5 (Aa 3)) Ag)))) (Ae Bl (Ae CJ (Aa 1) (Ad (.int 5))) (Ad (.int 2))))) DK)
    (Br (Ae Df (Ae Az (Ae Az (Aa 2) (Ae Bl (Ae CJ (Aa 1) (Ad (.int 5))) (Ar CG (Ab (Aa 2) Ag)))) (Ad (.int 0))) (Ae Az (BV (CQ (Ab (Nf Q5 (Ad (.int 1))) (Ab (Ad (.int 0)) (Ab (Ad (.int 1)) (Ab (Ad (.int 2)) Ag)))))) (Ae Bl (Ae CJ (Aa 1) (Ad (.int 500))) (Ad (.int 4)))))))))
def AKD : List D → Option D := BZ 2 4 ZM
end LKa
namespace LKb
open PySem L2
def ZM : Ao := (Aw (Bb 3 (vS (Ae Bl (Aa 1) (Ae Ir (Ad (.int 10)) (Ad (.int 50)))))) (Aw (Cd (BP (Ae Bx (Aa 0) (BV (CQ Ag))))
      (Br (Aa 3)) DK)
    (Aw (Bb 4 (vS (Ae Bl (Ae Az (BV (CQ (Ab (Ae CJ (Aa 1) (Ad (.int 7))) (Ab (Ae CJ (Ar CG (Ab (Aa 0) Ag)) (Ad (.int 2))) Ag)))) (Ar LR (Ab (Aa 2) Ag))) (Ae Df (Ar CG (Ab (Aa 0) Ag)) (Ad (.int 1))))))
    (Aw (Bb 5 (vS (Ae Az (BV (CQ (Ab (Ad (.int 1000)) (Ab (Ae Ir (Ad (.int 10)) (Ad (.int 48))) Ag)))) (Ar LR (Ab (T7 (Aa 2) (Ae Bx (Ae Bl (Ae CJ (Aa 1) (Ad (.int 7))) (Ad (.int 2))) (Ad (.int 1)))) Ag)))))
    (Aw (Cd (BP (Ae Bx (Aa 4) (Ad (.int 0))))
      (Br (Ae Eu (Ae Eu (Ae Az (Aa 0) (Ad (.int 0))) (Ad (.int 1))) (Ae Bl (Aa 3) (Aa 5)))) DK)
    (Aw (Cd (BP (Ae Bx (Aa 4) (Ar CG (Ab (Aa 0) Ag))))
      (Br (Ae Df (Ae Df (Ae Az (Aa 0) (Nf Q5 (Ad (.int 1)))) (Ad (.int 1))) (Ae Bl (Aa 3) (Aa 5)))) DK)
    (Br (Ae Df (Ae Df (Ae Az (Aa 0) (Ae Eu (Aa 4) (Ad (.int 1)))) (Ad (.int 1))) (Ae Bl (Aa 3) (Ar Ml (Ab (Ad (.int 1)) (Ab (Ae Eu (Ae Eu (Ae Az (Aa 0) (Aa 4)) (Ae Az (Aa 0) (Ae Eu (Aa 4) (Ad (.int 1))))) (Ad (.int 1))) Ag))))))))))))
def AKD : List D → Option D := BZ 3 6 ZM
end LKb
namespace LL
open PySem L2
def cnt (ts : List Thing) (a b : Nat) : Nat := (things ((ts.drop a).take (b - a))).length
end LL
namespace LKa
open PySem L2 LL
end LKa
namespace LKb
open PySem L2 LL
end LKb
namespace LL
open PySem L2
def jL (w s h : Nat) : Nat := s / (2 ^ h * w) * (2 ^ h * w)
def ABV (ts : List Thing) (w st s h : Nat) : Prop := (cnt ts (jL w s h) (jL w s h + 2 ^ h * w) : Int) < 2 ^ h * ((w : Int) - h * st)
end LL
namespace LL
open PySem L2
theorem Vx (k : Nat) : tw (k : Int) = ((2 ^ k : Nat) : Int) := by
  unfold tw
  rw [Int.toNat_natCast]
  exact (Int.natCast_pow 2 k).symm
theorem J8 {k w : Nat} (hk : k ≤ 4) (w1 : 1 ≤ w) (w20 : w ≤ 20) : 1 ≤ 2 ^ k * w ∧ 2 ^ k * w ≤ 320 := by
  have : k = 0 ∨ k = 1 ∨ k = 2 ∨ k = 3 ∨ k = 4 := by omega
  rcases this with rfl | rfl | rfl | rfl | rfl <;> omega
instance (ts : List Thing) (w st s h : Nat) : Decidable (ABV ts w st s h) := Int.decLt _ _
end LL
namespace LL
def cl (p n a : Nat) : Nat := (a * n + p - 1) / p
end LL
namespace LL
open PySem L2
theorem AJL (cs : List Int) (hl : cs.length < 16777216) {fi : BW} {ρ : Bc} (h : fi ρ = some (cs.map PyData.int)) : ∃ zs : List Int, Ca fi (Cg 0) Cq (Ar Jz (Ab (Aa 0) Ag)) 1 [] ρ = some (zs.map PyData.int) ∧ zs.length = cs.length ∧ ∀ z ∈ zs, 0 ≤ z := by
  refine ⟨cs.map fun c => (TV c).choose, ?_, List.length_map _, ?_⟩
  · rw [Hb h (by simpa using hl), Oj PyData.int (fun c => .int (TV c).choose), List.map_map]
    · rfl
    · intro c _
      exact ⟨_, rfl, (TV c).choose_spec.1⟩
  · intro z hz
    obtain ⟨c, _, rfl⟩ := List.mem_map.mp hz
    exact (TV c).choose_spec.2
theorem ACb (ns : List Int) (lo hi : Option Int) : ∃ cs : List Int, cutD (ns.map PyData.int) lo hi = cs.map PyData.int ∧ cs.length ≤ ns.length := AIi PyData.int ns lo hi
end LL
namespace LL
open PySem L2
theorem sS (n : Nat) (h : n < 16777216) : Ek [.int (n : Int)] = some ((List.range n).map fun i : Nat => .int (i : Int)) := by
  rw [R4 _ ⟨by omega, by omega⟩]
  unfold Fi
  rw [Int.toNat_natCast]
  congr 1
  apply List.map_congr_left
  intro i _
  show PyData.int (0 + (i : Int)) = .int (i : Int)
  rw [Int.zero_add]
theorem AMu (ns : List Int) : Rc (ns.map PyData.int) = some ns := by
  induction ns with
  | nil => rfl
  | cons n ns ih => simp [Rc, ih]
theorem vI (ns : List Int) : Tj [.list (ns.map PyData.int)] = some (.int ns.sum) := by
  show (Rc (ns.map PyData.int)).bind _ = _
  rw [AMu]
  rfl
def XX (ts : List Thing) (i : Nat) : D := .tuple [.int (i : Int), encD (ts.getD i none)]
theorem ADP (ts : List Thing) : Jv (ts.map encD) = (List.range ts.length).map (XX ts) := by
  unfold Jv
  apply List.ext_getElem?
  intro i
  rw [List.getElem?_map, List.getElem?_zipIdx, List.getElem?_map, List.getElem?_map]
  by_cases h : i < ts.length
  · rw [List.getElem?_range h]
    simp [h, XX]
  · rw [List.getElem?_eq_none (show ts.length ≤ i by omega), List.getElem?_eq_none (show (List.range ts.length).length ≤ i by simp; omega)]
    rfl
def Q3 (f : Nat → Int) : Nat → Int
  | 0 => 0
  | n + 1 => Q3 f n + f n
def Ni (ts : List Thing) (w st l k : Nat) : Int := max 0 ((cnt ts (k * (2 ^ l * w)) (k * (2 ^ l * w) + 2 ^ l * w) : Int) - 2 ^ l * ((w : Int) - st * ((l : Int) + 1)))
def MP (ts : List Thing) (w st l : Nat) : Int := Q3 (Ni ts w st l) (ts.length / (2 ^ l * w))
def YX (ts : List Thing) (w st hh : Nat) : Int := Q3 (MP ts w st) hh
theorem dF : ∀ (s : List Thing) (k a b : Nat), (things ((s.drop a).take (b - a))).length = ((Ep k s).filter fun p => decide (k + a ≤ p.1) && decide (p.1 < k + b)).length
  | [], k, a, b => by simp [Ep, things]
  | t :: r, k, a, b => by
    have hge := Xc r (k + 1)
    by_cases hb : b = 0
    · subst hb
      have ACj := Xc (t :: r) k
      rw [Nat.zero_sub, List.take_zero]
      have : ((Ep k (t :: r)).filter fun p => decide (k + a ≤ p.1) && decide (p.1 < k + 0)) = [] := by
        rw [List.filter_eq_nil_iff]
        intro p hp
        have := ACj p hp
        simp
        omega
      rw [this]
      rfl
    obtain ⟨b', rfl⟩ : ∃ b', b = b' + 1 := ⟨b - 1, by omega⟩
    cases a with
    | zero =>
      rw [List.drop_zero, Nat.sub_zero, List.take_succ_cons]
      have ih := dF r (k + 1) 0 b'
      rw [List.drop_zero, Nat.sub_zero] at ih
      have e : ((Ep (k + 1) r).filter fun p => decide (k + 1 + 0 ≤ p.1) && decide (p.1 < k + 1 + b')) = ((Ep (k + 1) r).filter fun p => decide (k + 0 ≤ p.1) && decide (p.1 < k + (b' + 1))) := by
        apply List.filter_congr
        intro p hp
        have := hge p hp
        rw [Bool.eq_iff_iff]
        simp only [Bool.and_eq_true, decide_eq_true_eq]
        omega
      rw [e] at ih
      cases t with
      | none => exact ih
      | some x =>
        have h1 : (decide (k + 0 ≤ k) && decide (k < k + (b' + 1))) = true := by simp
        show (x :: things (r.take b')).length = (((k, x) :: Ep (k + 1) r).filter _).length
        rw [List.filter_cons, if_pos h1, List.length_cons, List.length_cons, ih]
    | succ a' =>
      rw [List.drop_succ_cons, Nat.add_sub_add_right, dF r (k + 1) a' b']
      have e : ((Ep (k + 1) r).filter fun p => decide (k + 1 + a' ≤ p.1) && decide (p.1 < k + 1 + b')) = ((Ep (k + 1) r).filter fun p => decide (k + (a' + 1) ≤ p.1) && decide (p.1 < k + (b' + 1))) := by
        apply List.filter_congr
        intro p hp
        rw [Bool.eq_iff_iff]
        simp only [Bool.and_eq_true, decide_eq_true_eq]
        omega
      rw [e]
      cases t with
      | none => rfl
      | some x =>
        have h1 : ¬ (decide (k + (a' + 1) ≤ k) && decide (k < k + (b' + 1))) = true := by simp
        show _ = (((k, x) :: Ep (k + 1) r).filter _).length
        rw [List.filter_cons, if_neg h1]
theorem AFr (s : List Thing) (a b : Nat) : cnt s a b = (((Ep 0 s).map (·.1)).filter fun p => decide (a ≤ p) && decide (p < b)).length := by
  unfold cnt
  rw [dF s 0 a b, List.filter_map, List.length_map]
  congr 1
  apply List.filter_congr
  intro p _
  simp
end LL
namespace LL
open PySem L2
def eZ : Ao := (Bb 1 (vS (Ae DX (Aa 1) (Ad (.int 2)))))
def fJ : Ao := (Aw (Bb 1 (vS (Ad (.int 1)))) (Aw (J2 (Bm Ek (Ab (Aa 0) Ag)) (Kf 2) eZ) (Br (Aa 1))))
def J0 : List D → Option D := BZ 1 3 fJ
def gM : Ao := (Aw (Bb 2 (vS (Ae Az (Aa 0) (Ad (.int 1))))) (Br (Ae DX (Ar J0 (Ab (Aa 1) Ag)) (Aa 2))))
def J3 : List D → Option D := BZ 2 3 gM
def ZJ : Ao := (Aw (Bb 2 (vS (Ae Az (Aa 0) (Ad (.int 1))))) (Aw (Bb 3 (vS (Ae Az (Aa 0) (Ad (.int 2))))) (Br (Ae DX (Ar J0 (Ab (Aa 1) Ag)) (Ae Eu (Aa 2) (Ae DX (Aa 3) (Aa 1)))))))
def MK : List D → Option D := BZ 2 4 ZJ
def Zf : Ao := (Aw (Bb 2 (vS (Ae Az (Aa 0) (Ad (.int 1))))) (Aw (Bb 3 (vS (Ae Az (Aa 0) (Ad (.int 2))))) (Br (Ae DX (Ar J0 (Ab (Aa 1) Ag)) (Ae Eu (Aa 2) (Ae DX (Aa 3) (Ae Df (Aa 1) (Ad (.int 1)))))))))
def Q0 : List D → Option D := BZ 2 4 Zf
def bR : Ao := (Br (Ar Ml (Ab (Ad (.int 0)) (Ab (Ae Eu (Aa 0) (Aa 1)) Ag))))
def Jr : List D → Option D := BZ 2 2 bR
def Y8 : Ao := (Aw (Bb 3 (vS (Ar J3 (Ab (Aa 0) (Ab (Aa 1) Ag))))) (Aw (Bb 4 (vS (Ar Q0 (Ab (Aa 0) (Ab (Aa 1) Ag))))) (Br (Ar Tj (Ab (BV (Ca (Bm Sv (Ab (Ad (.int 0)) (Ab (Ar CG (Ab (Aa 2) Ag)) (Ab (Aa 3) Ag)))) (Cg 0) Cq (Ar Jr (Ab (Ar J7 (Ab (Aa 2) (Ab (Aa 0) (Ab (Ae Df (Aa 0) (Aa 3)) Ag)))) (Ab (Aa 1) Ag))) 1 [4, 2, 3])) Ag)))))
def Lj : List D → Option D := BZ 3 5 Y8
def fC : Ao := (Br (Ar Tj (Ab (BV (Ca (Bm Ek (Ab (Aa 1) Ag)) (Cg 0) Cq (Ar Lj (Ab (Aa 1) (Ab (Aa 0) (Ab (Aa 2) Ag)))) 1 [0, 2])) Ag)))
def Od : List D → Option D := BZ 3 3 fC
def Yz : Ao := (Aw (Bb 3 (vS (WK (BP (Ae Bx (Aa 1) (Ad (.int 0)))) (Ad (.int 0)) (Ar MK (Ab (Aa 0) (Ab (Ae Eu (Aa 1) (Ad (.int 1))) Ag)))))) (Br (Ar Jr (Ab (Ar J7 (Ab (Aa 2) (Ab (Ad (.int 0)) (Ab (Ar CG (Ab (Aa 2) Ag)) Ag)))) (Ab (Aa 3) Ag)))))
def Ou : List D → Option D := BZ 3 4 Yz
theorem Yd (h : Nat) (hh : h < 1000) : J0 [.int (h : Int)] = some (.int (2 ^ h)) := by
  have loop := Yq (bs := Kf 2) (F := eZ) (lo := 0) (fun i ρ => ∃ s2, ρ = [.sh (.int (h : Int)), .sh (.int (2 ^ i)), s2]) h ?_ [.sh (.int (h : Int)), .sh (.int 1), .no] ⟨_, rfl⟩
  · obtain ⟨ρ', hf, s2, rfl⟩ := loop
    have hr := R4 (h : Int) ⟨by omega, by omega⟩
    rw [Int.toNat_natCast] at hr
    generalize (2 : Int) ^ h = P at *
    refine Cr (o := .rt (.int P)) rfl ?_ rfl
    unfold fJ
    refine BJ (ρ' := [.sh (.int (h : Int)), .sh (.int 1), .no]) (by clear hf; walk_at "pu") ?_
    refine BJ ((SJ (items := Fi 0 h) (by clear hf; walk_at "pu")).trans hf) (by clear hf hr; walk_at "pu")
  · rintro i ρ hi ⟨s2, rfl⟩
    rw [Int.zero_add]
    refine ⟨_, [.sh (.int (h : Int)), .sh (.int (2 ^ (i + 1))), .sh (.int (i : Int))], rfl, ?_, _, rfl⟩
    rw [Int.pow_succ]
    generalize (2 : Int) ^ i = P
    unfold eZ
    clear hi hh
    walk_at "pu"
theorem Yl {h : Nat} (hh : h ≤ 4) : -18446744073709551616 < (2 : Int) ^ h ∧ (2 : Int) ^ h < 18446744073709551616 := by
  match h, hh with
  | 0, _ => decide
  | 1, _ => decide
  | 2, _ => decide
  | 3, _ => decide
  | 4, _ => decide
theorem places_eq {t : Int} {w st h : Nat} (hh : h ≤ 4) : J3 [.tuple [.int t, .int (w : Int), .int (st : Int)], .int (h : Int)] = some (.int ((2 ^ h * w : Nat) : Int)) := by
  have h2 := Yd h (by omega)
  have hs := Yl hh
  rw [Int.natCast_mul, Int.natCast_pow, show ((2 : Nat) : Int) = 2 from rfl]
  generalize (2 : Int) ^ h = P at *
  refine Cr (o := .rt (.int _)) rfl ?_ rfl
  unfold gM
  clear hh
  walk_at "pu"
theorem lF {t : Int} {w st h : Nat} (hh : h ≤ 4) (G3 : st ≤ 20) : MK [.tuple [.int t, .int (w : Int), .int (st : Int)], .int (h : Int)] = some (.int (2 ^ h * ((w : Int) - (h : Int) * (st : Int)))) := by
  have h2 := Yd h (by omega)
  have hs := Yl hh
  have hs2 : -18446744073709551616 < (st : Int) ∧ (st : Int) < 18446744073709551616 := by omega
  rw [Int.mul_comm (h : Int) (st : Int)]
  generalize (2 : Int) ^ h = P at *
  refine Cr (o := .rt (.int _)) rfl ?_ rfl
  unfold ZJ
  clear hh G3
  walk_at "pu"
theorem calm_eq {t : Int} {w st h : Nat} (hh : h ≤ 4) (G3 : st ≤ 20) : Q0 [.tuple [.int t, .int (w : Int), .int (st : Int)], .int (h : Int)] = some (.int (2 ^ h * ((w : Int) - (st : Int) * ((h : Int) + 1)))) := by
  have h2 := Yd h (by omega)
  have hs := Yl hh
  have hs2 : -18446744073709551616 < (st : Int) ∧ (st : Int) < 18446744073709551616 := by omega
  generalize (2 : Int) ^ h = P at *
  refine Cr (o := .rt (.int _)) rfl ?_ rfl
  unfold Zf
  clear hh G3
  walk_at "pu"
theorem yL (a b : Int) : Jr [.int a, .int b] = some (.int (max 0 (a - b))) := by
  refine Cr (o := .rt (.int _)) rfl ?_ rfl
  unfold bR
  walk_at "pu"
theorem held_eq (ts : List Thing) (hl : ts.length < 16777216) (a b : Nat) : J7 [.list (ts.map encD), .int (a : Int), .int (b : Int)] = some (.int (cnt ts a b : Int)) := by
  have hc : Ca (Bm Sy (Ab (Aa 0) Ag)) (Km 0 1) (Gi (BP (Hs HF Ht (Aa 2) (Aa 0) (Aa 3))) (BP (Ae Cm (Aa 1) (Bt Ag)))) (Aa 1) 2 [1, 2] [some (.list (ts.map encD)), some (.int (a : Int)), some (.int (b : Int))] =
      some (((List.range ts.length).filter fun i => (decide (a ≤ i) && decide (i < b)) && Eg (ts.getD i none)).map fun i => encD (ts.getD i none)) := by
    rw [Hb (items := (List.range ts.length).map (XX ts)) (by rw [← ADP]; walk_at "pu") (by simpa using hl), Pu (XX ts) (fun i => (decide (a ≤ i) && decide (i < b)) && Eg (ts.getD i none)) fun i => encD (ts.getD i none)]
    intro i hi
    refine ⟨[some (.int (i : Int)), some (encD (ts.getD i none)), some (.int (a : Int)), some (.int (b : Int))], rfl, ?_, fun _ => rfl⟩
    have e1 : decide ((a : Int) ≤ (i : Int)) = decide (a ≤ i) := by simp
    have e2 : decide ((i : Int) < (b : Int)) = decide (i < b) := by simp
    have e3 : Eg (ts.getD i none) = !decide (ts.getD i none = none) := rfl
    rw [e3]
    generalize ts.getD i none = u at *
    clear hi hl e3
    by_cases c1 : a ≤ i
    · by_cases c2 : i < b
      · have c1' : (a : Int) ≤ (i : Int) := by omega
        have c2' : (i : Int) < (b : Int) := by omega
        clear e1 e2
        walk_at "pu"
      · have c1' : (a : Int) ≤ (i : Int) := by omega
        have c2' : ¬ (i : Int) < (b : Int) := by omega
        clear e1 e2
        walk_at "pu"
    · have c1' : ¬ (a : Int) ≤ (i : Int) := by omega
      clear e1 e2
      walk_at "pu"
  have hn : ((List.range ts.length).filter fun i => (decide (a ≤ i) && decide (i < b)) && Eg (ts.getD i none)).length = cnt ts a b := by
    rw [AFr, ← tL, List.filter_filter, ← List.range_eq_range']
    refine congrArg List.length (List.filter_congr fun i _ => ?_)
    rw [Nat.sub_zero]
  refine Cr (o := .rt (.int _)) rfl ?_ rfl
  unfold ZS
  rw [← hn]
  generalize ((List.range ts.length).filter fun i => (decide (a ≤ i) && decide (i < b)) && Eg (ts.getD i none)) = X at *
  clear hn hl
  walk_at "pu"
theorem AOG (ts : List Thing) : cnt ts 0 ts.length = (things ts).length := by
  unfold cnt
  simp
theorem bK (f : Nat → Int) : ∀ n, ((List.range n).map f).sum = Q3 f n
  | 0 => rfl
  | n + 1 => by
    rw [List.range_succ, List.map_append, List.sum_append, bK f n]
    show Q3 f n + ([f n]).sum = _
    simp [Q3]
theorem ADu {Z q : Nat} (hZ : 1 ≤ Z) : Ju 0 ((q * Z : Nat) : Int) (Z : Int) = q := by
  unfold Ju
  rw [PyProof.Rows.rangeSize_pos (by omega) (by omega)]
  have e : (((q * Z : Nat) : Int) + (Z : Int) - 1) / (Z : Int) = (q : Int) := by
    rw [show ((q * Z : Nat) : Int) + (Z : Int) - 1 = ((Z : Int) - 1) + (q : Int) * (Z : Int) by rw [Int.natCast_mul]; omega, Int.add_mul_ediv_right _ _ (by omega), Int.ediv_eq_zero_of_lt (by omega) (by omega), Int.zero_add]
  rw [e]
  exact Int.toNat_natCast q
theorem ACc (ts : List Thing) {t : Int} {w st l hh : Nat} (w1 : 1 ≤ w) (w20 : w ≤ 20) (G3 : st ≤ 20) (h4 : hh ≤ 4) (hl : l ≤ hh) (hlen : ts.length = 2 ^ hh * w) :
    Lj [.tuple [.int t, .int (w : Int), .int (st : Int)], .int (l : Int), .list (ts.map encD)] = some (.int (MP ts w st l)) := by
  have hp := places_eq (t := t) (w := w) (st := st) (h := l) (by omega)
  have hc := calm_eq (t := t) (w := w) (st := st) (h := l) (by omega) G3
  have hz := J8 (k := l) (w := w) (by omega) w1 w20
  have hz2 := J8 h4 w1 w20
  have hq : ts.length = 2 ^ (hh - l) * (2 ^ l * w) := by
    rw [hlen, ← Nat.mul_assoc, ← Nat.pow_add, show hh - l + l = hh by omega]
  have hd : ts.length / (2 ^ l * w) = 2 ^ (hh - l) := by rw [hq]; exact Nat.mul_div_cancel _ (by omega)
  have hpw : 2 ^ (hh - l) ≤ 2 ^ 4 := Nat.pow_le_pow_right (by decide) (by omega)
  unfold MP
  rw [hd]
  have hex : ∀ i, Ni ts w st l i = max 0 ((cnt ts (i * (2 ^ l * w)) (i * (2 ^ l * w) + 2 ^ l * w) : Int) - 2 ^ l * ((w : Int) - (st : Int) * ((l : Int) + 1))) := fun _ => rfl
  generalize (2 : Int) ^ l * ((w : Int) - (st : Int) * ((l : Int) + 1)) = P at *
  generalize 2 ^ l * w = Z at *
  generalize 2 ^ (hh - l) = q at *
  have hN : Ju 0 (ts.length : Int) (Z : Int) = q := by rw [hq]; exact ADu hz.1
  have hr : Sv [.int 0, .int (ts.length : Int), .int (Z : Int)] = some ((List.range q).map fun i : Nat => .int (((i * Z : Nat) : Int))) := by
    show (if 0 ≤ (0 : Int) ∧ (0 : Int) ≤ (ts.length : Int) ∧ (ts.length : Int) < 1000000 ∧ 1 ≤ (Z : Int) ∧ (Z : Int) < 1000000 then some (Ol 0 (Z : Int) (Ju 0 (ts.length : Int) (Z : Int))) else none) = _
    rw [if_pos (by omega), hN]
    unfold Ol
    refine congrArg some (List.map_congr_left fun i _ => ?_)
    rw [Int.zero_add, Int.natCast_mul]
  have Js : Ca (Bm Sv (Ab (Ad (.int 0)) (Ab (Ar CG (Ab (Aa 2) Ag)) (Ab (Aa 3) Ag)))) (Cg 0) Cq (Ar Jr (Ab (Ar J7 (Ab (Aa 2) (Ab (Aa 0) (Ab (Ae Df (Aa 0) (Aa 3)) Ag)))) (Ab (Aa 1) Ag))) 1 [4, 2, 3]
      [some (.tuple [.int t, .int (w : Int), .int (st : Int)]), some (.int (l : Int)), some (.list (ts.map encD)), some (.int (Z : Int)), some (.int P)] = some (((List.range q).map fun i => Ni ts w st l i).map PyData.int) := by
    rw [Hb (items := (List.range q).map fun i : Nat => .int (((i * Z : Nat) : Int))) (by clear hp hc hz hz2 hq hd hpw hex hN hlen; walk_at "pu") (by rw [List.length_map, List.length_range]; omega), Oj (fun i : Nat => (.int (((i * Z : Nat) : Int)) : D)) (fun i => .int (Ni ts w st l i)), List.map_map]
    · rfl
    · intro i _
      have hheld := held_eq ts (by omega) (i * Z) (i * Z + Z)
      rw [Int.natCast_add] at hheld
      have hb := yL (cnt ts (i * Z) (i * Z + Z) : Int) P
      have he := hex i
      generalize (cnt ts (i * Z) (i * Z + Z) : Int) = C at *
      generalize ((i * Z : Nat) : Int) = a at *
      refine ⟨[some (.int a), some (.int P), some (.list (ts.map encD)), some (.int (Z : Int))], rfl, ?_⟩
      rw [he]
      clear he hex hp hc hz hz2 hq hd hpw hN hr hlen
      walk_at "pu"
  have hsum := vI ((List.range q).map fun i => Ni ts w st l i)
  rw [bK] at hsum
  refine Cr (o := .rt (.int _)) rfl ?_ rfl
  unfold Y8
  refine BJ (ρ' := [.sh (.tuple [.int t, .int (w : Int), .int (st : Int)]), .sh (.int (l : Int)), .sh (.list (ts.map encD)), .sh (.int (Z : Int)), .no]) (by clear Js hsum hex hr hN; walk_at "pu") ?_
  refine BJ (ρ' := [.sh (.tuple [.int t, .int (w : Int), .int (st : Int)]), .sh (.int (l : Int)), .sh (.list (ts.map encD)), .sh (.int (Z : Int)), .sh (.int P)]) (by clear Js hsum hex hr hN; walk_at "pu") ?_
  generalize Ca (Bm Sv (Ab (Ad (.int 0)) (Ab (Ar CG (Ab (Aa 2) Ag)) (Ab (Aa 3) Ag)))) (Cg 0) Cq (Ar Jr (Ab (Ar J7 (Ab (Aa 2) (Ab (Aa 0) (Ab (Ae Df (Aa 0) (Aa 3)) Ag)))) (Ab (Aa 1) Ag))) 1 [4, 2, 3] = CC at *
  generalize ((List.range q).map fun i => Ni ts w st l i) = L at *
  generalize Ni ts w st l = ea at *
  clear hex hr hN hp hc hz hz2 hq hd hpw
  walk_at "pu"
theorem ALn (ts : List Thing) (t : Int) (w st hh : Nat) (w1 : 1 ≤ w) (w20 : w ≤ 20) (G3 : st ≤ 20) (h4 : hh ≤ 4) (hlen : ts.length = 2 ^ hh * w) :
    Od [.tuple [.int t, .int (w : Int), .int (st : Int)], .int (hh : Int), .list (ts.map encD)] = some (.int (YX ts w st hh)) := by
  have hr := sS hh (by omega)
  have Js : Ca (Bm Ek (Ab (Aa 1) Ag)) (Cg 0) Cq (Ar Lj (Ab (Aa 1) (Ab (Aa 0) (Ab (Aa 2) Ag)))) 1 [0, 2] [some (.tuple [.int t, .int (w : Int), .int (st : Int)]), some (.int (hh : Int)), some (.list (ts.map encD))] = some (((List.range hh).map (MP ts w st)).map PyData.int) := by
    rw [Hb (items := (List.range hh).map fun i : Nat => .int (i : Int)) (by clear hlen; walk_at "pu") (by rw [List.length_map, List.length_range]; omega), Oj (fun i : Nat => (.int (i : Int) : D)) (fun i => .int (MP ts w st i)), List.map_map]
    · rfl
    · intro i hi
      have hx := ACc ts (t := t) (l := i) w1 w20 G3 h4 (by have := List.mem_range.mp hi; omega) hlen
      refine ⟨[some (.int (i : Int)), some (.tuple [.int t, .int (w : Int), .int (st : Int)]), some (.list (ts.map encD))], rfl, ?_⟩
      clear hr hi hlen w1 w20 G3 h4
      walk_at "pu"
  have hsum := vI ((List.range hh).map (MP ts w st))
  rw [bK] at hsum
  unfold YX
  refine Cr (o := .rt (.int _)) rfl ?_ rfl
  unfold fC
  generalize Ca (Bm Ek (Ab (Aa 1) Ag)) (Cg 0) Cq (Ar Lj (Ab (Aa 1) (Ab (Aa 0) (Ab (Aa 2) Ag)))) 1 [0, 2] = CC at *
  generalize (List.range hh).map (MP ts w st) = L at *
  generalize MP ts w st = ea at *
  clear hr hlen w1 w20 G3 h4
  walk_at "pu"
def TY (w st : Int) : Nat → Int
  | 0 => 0
  | h + 1 => 2 ^ h * (w - st * (h : Int))
theorem AMt (ts : List Thing) (t : Int) (w st hh : Nat) (G3 : st ≤ 20) (h4 : hh ≤ 4) (hl : ts.length < 16777216) :
    Ou [.tuple [.int t, .int (w : Int), .int (st : Int)], .int (hh : Int), .list (ts.map encD)] = some (.int (max 0 (((things ts).length : Int) - TY (w : Int) (st : Int) hh))) := by
  have hheld := held_eq ts hl 0 ts.length
  rw [AOG] at hheld
  have hb := yL ((things ts).length : Int) (TY (w : Int) (st : Int) hh)
  rw [show ((0 : Nat) : Int) = 0 from rfl] at hheld
  refine Cr (o := .rt (.int _)) rfl ?_ rfl
  unfold Yz
  cases hh with
  | zero =>
    have e : TY (w : Int) (st : Int) 0 = 0 := rfl
    rw [e] at hb ⊢
    generalize ((things ts).length : Int) = C at *
    clear hl G3 h4 e
    rw [show ((0 : Nat) : Int) = 0 from rfl]
    walk_at "pu"
  | succ g =>
    have hc := lF (t := t) (w := w) (st := st) (h := g) (by omega) G3
    have e : TY (w : Int) (st : Int) (g + 1) = 2 ^ g * ((w : Int) - (g : Int) * (st : Int)) := by rw [Int.mul_comm (g : Int)]; rfl
    rw [e] at hb ⊢
    generalize (2 : Int) ^ g * ((w : Int) - (g : Int) * (st : Int)) = P at *
    generalize ((things ts).length : Int) = C at *
    have e2 : (((g + 1 : Nat) : Int) - 1) = (g : Int) := by omega
    have e3 : ((g + 1 : Nat) : Int) ≠ 0 := by omega
    generalize ((g + 1 : Nat) : Int) = G at *
    clear hl G3 h4 e
    walk_at "pu"
end LL
namespace LL
open PySem L2
theorem j5 {α β : Type} (f : α → β) : ∀ (xs : List α) (k : Nat), (xs.map f).eraseIdx k = (xs.eraseIdx k).map f
  | [], _ => rfl
  | _ :: _, 0 => rfl
  | x :: xs, k + 1 => congrArg (f x :: ·) (j5 f xs k)
end LL
namespace LL
open PySem L2
end LL
namespace LL
open PySem L2
end LL
namespace LL
open PySem L2
def cP : Ao := (Br (Ae Az (Ae Az (Ae Az (Aa 0) (Ad (.int 2))) (Ad (.int 0))) (Ad (.int 0))))
def Ln : List D → Option D := BZ 1 1 cP
def bW : Ao := (Br (Ae Az (Ae Az (Ae Az (Aa 0) (Ad (.int 2))) (Ad (.int 0))) (Ad (.int 1))))
def Im : List D → Option D := BZ 1 1 bW
def Zq : Ao := (Hd (Fl (Ae Az (Aa 1) (Ar Ln (Ab (Aa 1) Ag))) Gs (GC (Ar J3 (Ab (Aa 0) (Ab (Ar Im (Ab (Aa 1) Ag)) Ag))))))
def IV : List D → Option (List D) := Dh 2 2 Zq
def Y7 : Ao := (Lr 2 (Aa 3) (Aa 4) (vS (Aa 5)))
def UW : Ao := (Aw (Bb 2 (vN (Kp (Dw (Aa 0)) (Cg 0) Cq (Bm Fy (Ab (Aa 0) Ag)) 1 []))) (Aw (J2 (Dw (Aa 1)) (U0 3 4 5) Y7) (V5 2)))
def Mp : List D → Option (List (List D)) := runN 2 6 UW
def bH : Ao := (Hd (Ca (Dw (Aa 1)) (Km 0 1) Cq (Bt (Ab (Aa 2) (Ab (Aa 0) (Ab (Aa 1) Ag)))) 2 [0]))
def Qa : List D → Option (List D) := Dh 2 2 bH
def Xg : Ao := (Aw (Bb 6 (vS (Ar KH (Ab (Aa 0) (Ab (Ae Df (Ae Df (Ae DX (Ad (.int 2)) (Aa 5)) (Aa 1)) (Ad (.int 500))) Ag)))))
      (Aw (Bb 7 (vS (Ae Eu (Ae Bl (Ae CJ (Aa 6) (Ad (.int 3))) (Ad (.int 1000))) (Ad (.int 500)))))
      (Aw (Cd (Gi (BP (Ae Cm (Aa 3) (BV (CQ Ag)))) (BP (Ae Bx (Ae Bl (Ae CJ (Aa 6) (Ad (.int 7))) (Ad (.int 2))) (Ad (.int 0)))))
        (Bb 7 (vS (Ae Eu (Ae Df (Ae Az (Ae Az (Aa 3) (Ae Bl (Ae CJ (Aa 6) (Ad (.int 14))) (Ar CG (Ab (Aa 3) Ag)))) (Ad (.int 0))) (Ae Bl (Ae CJ (Aa 6) (Ad (.int 5))) (Ad (.int 3)))) (Ad (.int 1))))) DK)
      (QC 4 (vS (Ae Az (BV (CQ (Ab (Bt Ag) (Ab (Bt (Ab (Aa 7) (Ab (Ae Bl (Ae CJ (Aa 6) (Ad (.int 11))) (Ae Ir (Ad (.int 10)) (Ad (.int 6)))) Ag))) Ag)))) (Ar LR (Ab (Ae Lp (Ae Bl (Aa 6) (Ad (.int 3))) (Ad (.int 0))) Ag))))))))
def eX : Ao := (Aw (Bb 4 (vL (CQ Ag))) (Aw (J2 (Bm Ek (Ab (Aa 2) Ag)) (Kf 5) Xg) (Ma 4)))
def Ko : List D → Option (List D) := Dh 4 8 eX
def Y5 : Ao := (Aw (Bb 5 (vS (BV (Ca (Dw (Aa 3)) (Cg 0) (BP (Ae Cm (Aa 0) (Bt Ag))) (Aa 0) 1 [])))) (Aw (Bb 6 (vL (Ca (Bm Ek (Ab (Ad (.int 2)) Ag)) (Cg 0) Cq (BV (Bm Ko (Ab (Aa 1) (Ab (Aa 0) (Ab (Ae DX (Ar Gw (Ab (Ae Az (Aa 3) (Ad (.int 0))) Ag)) (Ae Az (Aa 3) (Ad (.int 1)))) (Ab (Aa 2) Ag)))))) 1 [4, 5, 0]))) (Aw (Jh 6 (Aa 2) (RC (Gy (Aa 3) (BV (Fl (Ae Az (Aa 6) (Aa 2)) (GC (Ar CG (Ab (Aa 3) Ag))) Gs))))) (Hd (CQ (Ab (Ae Az (Aa 6) (Ad (.int 0))) (Ab (Ae Az (Aa 6) (Ad (.int 1))) (Ab (BV (CQ (Ab (Bt (Ab (Aa 2) (Ab (Aa 1) Ag))) Ag))) Ag))))))))
def Mw : List D → Option (List D) := Dh 5 7 Y5
def aV : Ao := (Br (Ae DX (Ar Gw (Ab (Aa 1) Ag)) (Ae Eu (Ae Az (Aa 0) (Ad (.int 1))) (Ae DX (Aa 1) (Ae Az (Aa 0) (Ad (.int 2)))))))
def Jc : List D → Option D := BZ 2 2 aV
def bJ : Ao := (Aw (Bb 8 (vS (Ae Eu (Ae Bl (Ar KH (Ab (Aa 2) (Ab (Aa 7) Ag))) (Ae Az (BV (CQ (Ab (Ae Ir (Ad (.int 10)) (Ad (.int 9))) (Ab (Ad (.int 3)) Ag)))) (Ae Bl (Aa 7) (Ad (.int 2))))) (Ad (.int 1)))))
      (Jh 6 (Ae Az (Aa 5) (Aa 7)) (vS (Bt (Ab (Ae Eu (Ae DX (Ae DX (Ad (.int 3)) (Aa 7)) (Ae Az (BV (CQ (Ab (Ad (.int 1)) (Ab (Ae Ir (Ad (.int 10)) (Ad (.int 40))) Ag)))) (Ae Bl (Aa 2) (Ad (.int 2))))) (Ae Bl (Aa 2) (Ae Ir (Ad (.int 10)) (Ad (.int 57))))) (Ab (Aa 8) Ag))))))
def Zb : Ao := (aM 5 (Ae Bl (Ae CJ (Ar KH (Ab (Aa 2) (Ab (Ar CG (Ab (Aa 5) Ag)) Ag))) (Ad (.int 7))) (Ar CG (Ab (Aa 5) Ag))))
def ZP : Ao := (Aw (Bb 4 (vS (Ae DX (Ar Gw (Ab (Aa 1) Ag)) (Ae Az (Aa 0) (Ad (.int 1)))))) (Aw (Bb 5 (vL (V6 (Ab (Aa 4) Ag)))) (Aw (JV (BP (Ae Lp (Ar CG (Ab (Aa 5) Ag)) (Ar Ml (Ab (Ad (.int 0)) (Ab (Aa 3) Ag))))) Zb 1000000) (Aw (Bb 6 (vL (Ca (Bm Ek (Ab (Aa 4) Ag)) (Cg 0) Cq (Bt Ag) 1 []))) (Aw (W0 (Bm Ek (Ab (Ar CG (Ab (Aa 5) Ag)) Ag)) (Kf 7) bJ) (Ma 6))))))
def JK : List D → Option (List D) := Dh 4 9 ZP
def Zw : Ao := (Aw (QC 5 (vS (Aa 6)))
      (Bb 6 (vS (Ae Eu (Ae Df (Aa 6) (Ad (.int 1))) (Ae DX (Ad (.int 2)) (Ae Bl (Ae CJ (Aa 1) (Ad (.int 1000))) (Ad (.int 2))))))))
def Wa : Ao := (Aw (Bb 2 (vL (Bm Fy (Ab (Aa 0) Ag)))) (Aw (Bb 3 (Ho (Ca (Bm Ek (Ab (Ar CG (Ab (Aa 0) Ag)) Ag)) (Cg 0) (BP (Ae Cm (Ae Az (Aa 1) (Aa 0)) (Bt Ag))) (Aa 0) 1 [0]))) (Aw (Cd (BP (Ae Bx (Aa 3) (BV (CQ Ag))))
      (Ma 2) DK)
    (Aw (Bb 4 (vS (Ae Az (Aa 3) (Ae Bl (Aa 1) (Ar CG (Ab (Aa 3) Ag))))))
    (Aw (Bb 5 (vL (CQ (Ab (Aa 4) Ag))))
    (Aw (Bb 6 (vS (Ae Eu (Ae Df (Aa 4) (Ad (.int 1))) (Ae DX (Ad (.int 2)) (Ae Bl (Ae CJ (Aa 1) (Ad (.int 1000))) (Ad (.int 2)))))))
    (Aw (JV (Gi (BP (Hs HF Ht (Ad (.int 0)) (Aa 6) (Ar CG (Ab (Aa 0) Ag)))) (BP (Ae Bx (Ae Az (Aa 0) (Aa 6)) (Bt Ag)))) Zw 1000000)
    (Aw (Jh 2 (Ae Az (Aa 5) (Ae Bl (Ae CJ (Aa 1) (Ad (.int 2000))) (Ar CG (Ab (Aa 5) Ag)))) (vS (Ae Az (Aa 0) (Aa 4))))
    (Ma 2)))))))))
def Mz : List D → Option (List D) := Dh 2 7 Wa
end LL
namespace LL
open PySem L2
abbrev Dk := List (List Thing)
def encL (ts : List Thing) : D := .list (ts.map encD)
def Bh (k : Dk) : D := .list (k.map encL)
def FQ (k : Dk) : List (List D) := k.map fun ts => ts.map encD
theorem oW (k : Dk) : Bh k = .list ((FQ k).map PyData.list) := by
  unfold Bh FQ encL
  rw [List.map_map]
  rfl
theorem AMQ : Gn encL 2 := ANe.list
theorem AHM : Gn Bh 3 := AMQ.list
theorem AFx {α β : Type} (f : α → β) (xs : List α) (i : Int) : Cw (xs.map f) i = (Cw xs i).map f := by
  unfold Cw
  rw [List.length_map]
  cases Dz xs.length i with
  | none => rfl
  | some j => simp
theorem g8 {α : Type} {xs : List α} {j : Nat} {x : α} (h : xs[j]? = some x) : Cw xs (j : Int) = some x := by
  unfold Cw
  rw [Ly (List.getElem?_eq_some_iff.mp h).1]
  exact h
theorem ixK {k : Dk} {j : Nat} {A : List Thing} (h : k[j]? = some A) : Az (Bh k) (.int (j : Int)) = some (encL A) := by
  show Cw (k.map encL) _ = _
  rw [AFx, g8 h]
  rfl
theorem AOB (x y : Int) : Az (encD (some (x, y))) (.int 0) = some (.int x) := rfl
theorem AMG (x y : Int) : Az (encD (some (x, y))) (.int 1) = some (.int y) := rfl
structure Dy (k : Dk) (n a h : Nat) (A B : List Thing) : Prop where
  eq : k = [A, B, [some ((a : Int), (h : Int))]]
  lA : A.length = n
  lB : B.length = n
  a2 : a < 2
def Lh (k : Dk) (a : Nat) : List Thing := k.getD a []
theorem Dy.ar {k : Dk} {n a h : Nat} {A B : List Thing} (d : Dy k n a h A B) : k[a]? = some (Lh k a) ∧ (Lh k a).length = n := by
  obtain ⟨rfl, lA, lB, a2⟩ := d
  match a, a2 with
  | 0, _ => exact ⟨rfl, lA⟩
  | 1, _ => exact ⟨rfl, lB⟩
theorem Dy.sg {k : Dk} {n a h : Nat} {A B : List Thing} (d : Dy k n a h A B) : Az (Bh k) (.int 2) = some (encL [some ((a : Int), (h : Int))]) ∧ Az (encL [some ((a : Int), (h : Int))]) (.int 0) = some (encD (some ((a : Int), (h : Int)))) := by
  obtain ⟨rfl, _⟩ := d
  exact ⟨rfl, rfl⟩
theorem jV {k : Dk} {n a h : Nat} {A B : List Thing} (d : Dy k n a h A B) : Ln [Bh k] = some (.int (a : Int)) := by
  obtain ⟨e1, e2⟩ := d.sg
  have e3 := AOB (a : Int) (h : Int)
  refine Cr (o := .rt (.int (a : Int))) rfl ?_ rfl
  unfold cP
  walk_at "pu"
theorem aF {k : Dk} {n a h : Nat} {A B : List Thing} (d : Dy k n a h A B) : Im [Bh k] = some (.int (h : Int)) := by
  obtain ⟨e1, e2⟩ := d.sg
  have e3 := AMG (a : Int) (h : Int)
  refine Cr (o := .rt (.int (h : Int))) rfl ?_ rfl
  unfold bW
  walk_at "pu"
theorem AMe {α : Type} (f : α → D) (xs : List α) (n : Nat) : cutD (xs.map f) none (some (n : Int)) = (xs.take n).map f := by
  unfold cutD
  have e0 : HT.Di (xs.map f).length 0 none = 0 := rfl
  rw [e0, List.drop_zero, ← List.map_take]
  have e1 : HT.Di (xs.map f).length (xs.map f).length (some (n : Int)) = min n xs.length := by
    simp only [HT.Di, List.length_map]
    rw [if_neg (by omega)]
    omega
  rw [e1, Nat.sub_zero]
  congr 1
  by_cases h : n ≤ xs.length
  · rw [Nat.min_eq_left h]
  · rw [Nat.min_eq_right (by omega), List.take_of_length_le (Nat.le_refl _), List.take_of_length_le (by omega)]
def CV (w : Nat) (k : Dk) (a h : Nat) : List Thing := (Lh k a).take (2 ^ h * w)
theorem bV {k : Dk} {n a h w st : Nat} {t : Int} {A B : List Thing} (d : Dy k n a h A B) (h4 : h ≤ 4) : IV [.tuple [.int t, .int (w : Int), .int (st : Int)], Bh k] = some ((CV w k a h).map encD) := by
  have e1 := jV d
  have e2 := aF d
  have e3 := places_eq (t := t) (w := w) (st := st) h4
  have e4 := ixK d.ar.1
  have e5 : La (encL (Lh k a)) = some ((Lh k a).map encD) := rfl
  have e6 := AMe encD (Lh k a) (2 ^ h * w)
  refine Hy rfl ?_
  unfold Zq CV
  walk_at "pu"
theorem ABk (dss : List (List D)) : Ss (Cg 0) Cq (Bm Fy (Ab (Aa 0) Ag)) [none] (dss.map PyData.list) = some dss := by
  induction dss with
  | nil => rfl
  | cons d r ih =>
    rw [List.map_cons]
    unfold Ss
    rw [ih]
    rfl
theorem uD {fi : BW} {ρ : Bc} {dss : List (List D)} (h : fi ρ = some (dss.map PyData.list)) (hl : dss.length < 16777216) : Kp fi (Cg 0) Cq (Bm Fy (Ab (Aa 0) Ag)) 1 [] ρ = some dss := by
  unfold Kp
  rw [h]
  show (if fits (dss.map PyData.list).length = true then _ else _) = _
  rw [List.length_map, if_pos (Uz hl)]
  exact ABk dss
theorem AJd (dss : List (List D)) : Hm (Cg 0) Cq (BV (Bm Fy (Ab (Aa 0) Ag))) [none] (dss.map PyData.list) = some (dss.map PyData.list) := by
  induction dss with
  | nil => rfl
  | cons d r ih =>
    rw [List.map_cons]
    unfold Hm
    rw [ih]
    rfl
theorem ANI {fi : BW} {ρ : Bc} {dss : List (List D)} (h : fi ρ = some (dss.map PyData.list)) (hl : dss.length < 16777216) : Ca fi (Cg 0) Cq (BV (Bm Fy (Ab (Aa 0) Ag))) 1 [] ρ = some (dss.map PyData.list) := by
  unfold Ca
  rw [h]
  show (if fits (dss.map PyData.list).length = true then _ else _) = _
  rw [List.length_map, if_pos (Uz hl)]
  exact AJd dss
theorem nP {f : BW} {ρ : Am} {ds : List D} (i : Nat) (h : f (masked ρ) = some ds) : Bb i (Ho f) ρ = some (.nx (ρ.set i (.sh (.list ds)))) := by
  have e : BV f (masked ρ) = some (.list ds) := by
    show (f (masked ρ)).map PyData.list = _
    rw [h]
    rfl
  show ((BV f (masked ρ)).bind _).bind _ = _
  rw [e]
  rfl
theorem AGz {f : Es} {ρ : Am} {ds : List (List D)} (i : Nat) (h : f (masked ρ) = some ds) : Bb i (vN f) ρ = some (.nx (ρ.set i (.on ds))) := by
  show ((f (masked ρ)).bind _).bind _ = _
  rw [h]
  rfl
abbrev Wr := Nat × Nat × Thing
def Ft (q : Wr) : D := .tuple [.int (q.1 : Nat), .int (q.2.1 : Nat), encD q.2.2]
def K7 (k : Dk) (q : Wr) : Dk := k.set q.1 ((k.getD q.1 []).set q.2.1 q.2.2)
def N8 (k : Dk) (ws : List Wr) : Dk := ws.foldl K7 k
def YQ (k : Dk) (q : Wr) : Prop := q.1 < k.length ∧ q.2.1 < (k.getD q.1 []).length
def Alike (k k' : Dk) : Prop := k'.length = k.length ∧ ∀ a, (k'.getD a []).length = (k.getD a []).length
theorem Alike.refl (k : Dk) : Alike k k := ⟨rfl, fun _ => rfl⟩
theorem Alike.K7 {k k' : Dk} (h : Alike k k') (q : Wr) : Alike k (K7 k' q) := by
  unfold LL.K7
  refine ⟨by rw [List.length_set]; exact h.1, fun a => ?_⟩
  rw [← h.2 a]
  by_cases e : q.1 = a
  · subst e
    by_cases hl : q.1 < k'.length
    · simp [List.getD_eq_getElem?_getD, List.getElem?_set_self hl]
    · rw [List.set_eq_of_length_le (by omega)]
  · simp [List.getD_eq_getElem?_getD, List.getElem?_set_ne e]
theorem Alike.ok {k k' : Dk} (h : Alike k k') {q : Wr} (o : YQ k q) : YQ k' q := ⟨by rw [h.1]; exact o.1, by rw [h.2]; exact o.2⟩
theorem AHl {k : Dk} {a : Nat} (h : a < k.length) : (FQ k)[a]? = some ((k.getD a []).map encD) := by
  unfold FQ
  rw [List.getElem?_map, List.getElem?_eq_getElem h, List.getD_eq_getElem?_getD, List.getElem?_eq_getElem h]
  rfl
theorem AL6 (k : Dk) (q : Wr) : (FQ k).set q.1 (((k.getD q.1 []).map encD).set q.2.1 (encD q.2.2)) = FQ (K7 k q) := by
  unfold FQ LL.K7
  rw [List.map_set, List.map_set]
theorem AKf (k : Dk) (ws : List Wr) (hk : k.length < 16777216) (h : ∀ q ∈ ws, YQ k q) : Mp [Bh k, .list (ws.map Ft)] = some (FQ (N8 k ws)) := by
  have loop := V8 (bs := U0 3 4 5) (F := Y7) Ft (fun (us : Dk) ρ => Alike k us ∧ ∃ s3 s4 s5, ρ = [.sh (Bh k), .sh (.list (ws.map Ft)), .on (FQ us), s3, s4, s5]) K7 ws ?_ k
    [.sh (Bh k), .sh (.list (ws.map Ft)), .on (FQ k), .no, .no, .no] ⟨Alike.refl k, .no, .no, .no, rfl⟩
  · obtain ⟨ρ', hf, _, s3, s4, s5, rfl⟩ := loop
    have hm : Mp = L2.runN 2 6 UW := rfl
    rw [hm]
    unfold L2.runN
    rw [if_pos (show [Bh k, PyData.list (ws.map Ft)].length = 2 from rfl)]
    have main : UW (GX 6 [Bh k, .list (ws.map Ft)]) = some (.rn (FQ (N8 k ws))) := by
      unfold UW
      have hc : Kp (Dw (Aa 0)) (Cg 0) Cq (Bm Fy (Ab (Aa 0) Ag)) 1 [] (masked (GX 6 [Bh k, .list (ws.map Ft)])) = some (FQ k) := uD (by rw [oW]; rfl) (by unfold FQ; rw [List.length_map]; exact hk)
      refine BJ (ρ' := [.sh (Bh k), .sh (.list (ws.map Ft)), .on (FQ k), .no, .no, .no]) ?_ ?_
      · show (vN _ _).bind _ = _
        unfold vN
        rw [hc]
        rfl
      · refine BJ ((SJ (items := ws.map Ft) (by walk_at "pu")).trans hf) ?_
        walk_at "pu"
        rfl
    rw [main]
    rfl
  · rintro us ρ q hq ⟨hA, s3, s4, s5, rfl⟩
    obtain ⟨o1, o2⟩ := hA.ok (h q hq)
    have l1 : (FQ us).length = us.length := by unfold FQ; rw [List.length_map]
    have i1 := Ly (n := us.length) (j := q.1) o1
    have i2 := Ly (n := (us.getD q.1 []).length) (j := q.2.1) o2
    have g1 := AHl o1
    have st := AL6 us q
    refine ⟨_, [.sh (Bh k), .sh (.list (ws.map Ft)), .on (FQ (K7 us q)), .sh (.int (q.1 : Nat)), .sh (.int (q.2.1 : Nat)), .sh (encD q.2.2)], rfl, ?_, hA.K7 q, _, _, _, rfl⟩
    clear hA hq h o1 o2
    unfold Y7
    walk_at "pu"
theorem AKn (a : Nat) (ws : List (Nat × Thing)) (hl : ws.length < 16777216) : Qa [.int (a : Int), .list (ws.map Iu)] = some ((ws.map fun q => ((a, q.1, q.2) : Wr)).map Ft) := by
  refine Hy rfl ?_
  unfold bH
  have hc : Ca (Dw (Aa 1)) (Km 0 1) Cq (Bt (Ab (Aa 2) (Ab (Aa 0) (Ab (Aa 1) Ag)))) 2 [0] (full (GX 2 [.int (a : Int), .list (ws.map Iu)])) = some ((ws.map fun q => ((a, q.1, q.2) : Wr)).map Ft) := by
    refine (Hb (items := ws.map Iu) (by walk_at "pu") (by rw [List.length_map]; exact hl)).trans ?_
    have key : ∀ us : List (Nat × Thing), Hm (Km 0 1) Cq (Bt (Ab (Aa 2) (Ab (Aa 0) (Ab (Aa 1) Ag)))) [none, none, some (.int (a : Int))] (us.map Iu) = some ((us.map fun q => ((a, q.1, q.2) : Wr)).map Ft) := by
      intro us
      induction us with
      | nil => rfl
      | cons q r ih =>
        rw [List.map_cons]
        unfold Hm
        rw [ih]
        rfl
    exact key ws
  show (Ca _ _ _ _ _ _ _).bind _ = _
  rw [hc]
  rfl
theorem AAs (X : List Pr) : Cm (.list (X.map DN)) (.list []) = some (.bool (!decide (X = []))) := zF X []
theorem vX (c k : Int) (n : Nat) (X : List Pr) (hn : n ≤ 320) (hX : X.length ≤ 320) : ∃ A : List Thing, Ko [.int c, .int k, .int (n : Int), .list (X.map DN)] = some (A.map encD) ∧ A.length = n := by
  have loop := Yq (lo := 0) (bs := Kf 5) (F := Xg)
    (fun i ρ => ∃ (A : List Thing) (s5 s6 s7 : Sl), ρ = [.sh (.int c), .sh (.int k), .sh (.int (n : Int)), .sh (.list (X.map DN)), .ow (A.map encD), s5, s6, s7] ∧ A.length = i)
    n ?_ [.sh (.int c), .sh (.int k), .sh (.int (n : Int)), .sh (.list (X.map DN)), .ow [], .no, .no, .no] ⟨[], _, _, _, rfl, rfl⟩
  · obtain ⟨ρ', AIs, A, s5, s6, s7, rfl, hl⟩ := loop
    refine ⟨A, Hy rfl ?_, hl⟩
    have hr : Ek [.int (n : Int)] = some (Fi 0 n) := R4 _ ⟨by omega, by omega⟩
    unfold eX
    refine BJ (ρ' := [.sh (.int c), .sh (.int k), .sh (.int (n : Int)), .sh (.list (X.map DN)), .ow [], .no, .no, .no]) (by walk_at "pu") ?_
    exact BJ ((SJ (items := Fi 0 n) (by walk_at "pu")).trans AIs) (by walk_at "pu")
  · rintro i ρ hi ⟨A, s5, s6, s7, rfl, hl⟩
    obtain ⟨m, hm, m0⟩ := Z2 c (2 * (0 + (i : Int)) + k + 500)
    have hi2 : i < 16777216 := by omega
    have hnil := AAs X
    have hi3 : -18446744073709551616 < (0 + (i : Int)) ∧ (0 + (i : Int)) < 18446744073709551616 := ⟨by omega, by omega⟩
    have last : ∀ key : Int, ∃ x : Thing, (QC 4 (vS (Ae Az (BV (CQ (Ab (Bt Ag) (Ab (Bt (Ab (Aa 7) (Ab (Ae Bl (Ae CJ (Aa 6) (Ad (.int 11))) (Ae Ir (Ad (.int 10)) (Ad (.int 6)))) Ag))) Ag)))) (Ar LR (Ab (Ae Lp (Ae Bl (Aa 6) (Ad (.int 3))) (Ad (.int 0))) Ag)))))
        [.sh (.int c), .sh (.int k), .sh (.int (n : Int)), .sh (.list (X.map DN)), .ow (A.map encD), .sh (.int (0 + (i : Int))), .sh (.int m), .sh (.int key)] = some (.nx [.sh (.int c), .sh (.int k), .sh (.int (n : Int)), .sh (.list (X.map DN)), .ow ((A ++ [x]).map encD), .sh (.int (0 + (i : Int))), .sh (.int m), .sh (.int key)]) := by
      intro key
      have lA : A.length < 16777216 := by omega
      by_cases h3 : 0 < m % 3
      · refine ⟨some (key, m / 11 % G9 6), ?_⟩
        rw [List.map_append]
        show _ = some (Out.nx [_, _, _, _, .ow (A.map encD ++ [.tuple [.int key, .int (m / 11 % G9 6)]]), _, _, _])
        clear hm hnil
        walk_at "pu"
      · refine ⟨none, ?_⟩
        rw [List.map_append]
        show _ = some (Out.nx [_, _, _, _, .ow (A.map encD ++ [.tuple []]), _, _, _])
        clear hm hnil
        walk_at "pu"
    by_cases hb : X ≠ [] ∧ m / 7 % 2 = 0
    · obtain ⟨b1, b2⟩ := hb
      have hXp : 0 < X.length := List.length_pos_iff.mpr b1
      have hmm := Ej (m / 14) (b := (X.length : Int)) (by omega)
      obtain ⟨v, hv, ev⟩ := Jb (X.map DN) (i := m / 14 % (X.length : Int)) hmm.1 (by rw [List.length_map]; exact hmm.2)
      obtain ⟨x, hx, rfl⟩ := List.mem_map.mp hv
      obtain ⟨kx, wx⟩ := x
      obtain ⟨y, hy⟩ := last (kx + m / 5 % 3 - 1)
      refine ⟨_, [.sh (.int c), .sh (.int k), .sh (.int (n : Int)), .sh (.list (X.map DN)), .ow ((A ++ [y]).map encD), .sh (.int (0 + (i : Int))), .sh (.int m), .sh (.int (kx + m / 5 % 3 - 1))], rfl, ?_, A ++ [y], _, _, _, rfl, by rw [List.length_append, hl]; rfl⟩
      have e0 : Az (DN (kx, wx)) (.int 0) = some (.int kx) := rfl
      have AOj : (0 : Int) < (X.length : Int) := by omega
      unfold Xg
      refine BJ (ρ' := [.sh (.int c), .sh (.int k), .sh (.int (n : Int)), .sh (.list (X.map DN)), .ow (A.map encD), .sh (.int (0 + (i : Int))), .sh (.int m), s7]) (by clear hnil hv ev hy e0; walk_at "pu") ?_
      refine BJ (ρ' := [.sh (.int c), .sh (.int k), .sh (.int (n : Int)), .sh (.list (X.map DN)), .ow (A.map encD), .sh (.int (0 + (i : Int))), .sh (.int m), .sh (.int (m / 3 % 1000 - 500))]) (by clear hm hnil hv ev hy e0; walk_at "pu") ?_
      refine BJ (ρ' := [.sh (.int c), .sh (.int k), .sh (.int (n : Int)), .sh (.list (X.map DN)), .ow (A.map encD), .sh (.int (0 + (i : Int))), .sh (.int m), .sh (.int (kx + m / 5 % 3 - 1))]) ?_ hy
      clear hm hv hy hmm hx hXp m0
      walk_at "pu"
    · obtain ⟨y, hy⟩ := last (m / 3 % 1000 - 500)
      refine ⟨_, [.sh (.int c), .sh (.int k), .sh (.int (n : Int)), .sh (.list (X.map DN)), .ow ((A ++ [y]).map encD), .sh (.int (0 + (i : Int))), .sh (.int m), .sh (.int (m / 3 % 1000 - 500))], rfl, ?_, A ++ [y], _, _, _, rfl, by rw [List.length_append, hl]; rfl⟩
      unfold Xg
      refine BJ (ρ' := [.sh (.int c), .sh (.int k), .sh (.int (n : Int)), .sh (.list (X.map DN)), .ow (A.map encD), .sh (.int (0 + (i : Int))), .sh (.int m), s7]) (by clear hnil hy hb; walk_at "pu") ?_
      refine BJ (ρ' := [.sh (.int c), .sh (.int k), .sh (.int (n : Int)), .sh (.list (X.map DN)), .ow (A.map encD), .sh (.int (0 + (i : Int))), .sh (.int m), .sh (.int (m / 3 % 1000 - 500))]) (by clear hm hnil hy hb; walk_at "pu") ?_
      refine BJ ?_ hy
      clear hm hy
      by_cases b1 : X = []
      · clear hb
        rw [decide_eq_true b1, Bool.not_true] at hnil
        clear b1
        walk_at "pu"
      · have b2 : ¬ m / 7 % 2 = 0 := fun z => hb ⟨b1, z⟩
        clear hb
        walk_at "pu"
theorem mZ {α : Type} (f : α → D) (xs : List α) (n : Nat) : cutD (xs.map f) (some (n : Int)) none = (xs.drop n).map f := by
  unfold cutD
  have e0 : HT.Di (xs.map f).length 0 (some (n : Int)) = min n xs.length := by
    simp only [HT.Di, List.length_map]
    rw [if_neg (by omega)]
    omega
  have e1 : HT.Di (xs.map f).length (xs.map f).length none = xs.length := by simp [HT.Di]
  rw [e0, e1, ← List.map_drop, ← List.map_take]
  congr 1
  by_cases h : n ≤ xs.length
  · rw [Nat.min_eq_left h, List.take_of_length_le (by simp)]
  · rw [Nat.min_eq_right (by omega), List.drop_of_length_le (Nat.le_refl _), List.drop_of_length_le (by omega)]
    simp
theorem AKX {t w st : Nat} (c : Int) (h a : Nat) (ts : List Thing) (bd : Bd (t : Int) (w : Int) (st : Int)) (ha : a < 2) (hl : ts.length ≤ 2 ^ t * w) :
    ∃ A B : List Thing, Mw [.tuple [.int (t : Int), .int (w : Int), .int (st : Int)], .int (h : Int), .int (a : Int), encL ts, .int c] = some ([A, B, [some ((a : Int), (h : Int))]].map encL) ∧ A.length = 2 ^ t * w ∧ B.length = 2 ^ t * w ∧ (Lh [A, B, [some ((a : Int), (h : Int))]] a).take ts.length = ts := by
  have t4 : t ≤ 4 := by have := bd.t4; omega
  have w20 : w ≤ 20 := by have := bd.hi; omega
  have hp : 2 ^ t ≤ 16 := by
    have : 2 ^ t ≤ 2 ^ 4 := Nat.pow_le_pow_right (by decide) t4
    omega
  have hN : 2 ^ t * w ≤ 320 := by
    have := Nat.mul_le_mul hp w20
    omega
  have hth : (things ts).length ≤ 320 := by
    have : (things ts).length ≤ ts.length := List.length_filterMap_le _ _
    omega
  obtain ⟨A0, hA, lA⟩ := vX c 0 (2 ^ t * w) (things ts) hN hth
  obtain ⟨B0, hB, lB⟩ := vX c 1 (2 ^ t * w) (things ts) hN hth
  have Hv := Xm (h := (t : Int)) (by omega) (by omega)
  rw [Vx] at Hv
  have hmul : ((2 ^ t : Nat) : Int) * (w : Int) = ((2 ^ t * w : Nat) : Int) := by push_cast; rfl
  have hsm : -18446744073709551616 < ((2 ^ t : Nat) : Int) ∧ ((2 ^ t : Nat) : Int) < 18446744073709551616 := by
    generalize 2 ^ t = P at hp
    omega
  generalize hz : ((2 ^ t : Nat) : Int) = z at Hv hmul hsm
  generalize hz2 : 2 ^ t * w = N at *
  have Qy := qG ts (by omega) (fi := Dw (Aa 3)) (ρ := masked (GX 7 [.tuple [.int (t : Int), .int (w : Int), .int (st : Int)], .int (h : Int), .int (a : Int), encL ts, .int c])) rfl
  rw [Wm] at Qy
  have Js : Ca (Bm Ek (Ab (Ad (.int 2)) Ag)) (Cg 0) Cq (BV (Bm Ko (Ab (Aa 1) (Ab (Aa 0) (Ab (Ae DX (Ar Gw (Ab (Ae Az (Aa 3) (Ad (.int 0))) Ag)) (Ae Az (Aa 3) (Ad (.int 1)))) (Ab (Aa 2) Ag)))))) 1 [4, 5, 0]
      (masked [.sh (.tuple [.int (t : Int), .int (w : Int), .int (st : Int)]), .sh (.int (h : Int)), .sh (.int (a : Int)), .sh (encL ts), .sh (.int c), .sh (.list ((things ts).map DN)), .no]) = some [encL A0, encL B0] := by
    refine (Hb (items := [.int 0, .int 1]) (by
      have : Ek [.int 2] = some [.int 0, .int 1] := by
        rw [show (PyData.int 2 : D) = .int ((2 : Nat) : Int) from rfl, R4 _ ⟨by decide, by decide⟩]
        rfl
      walk_at "pu") (by decide)).trans ?_
    have hA' : Ko [.int c, .int 0, .int (N : Int), .list ((things ts).map DN)] = some (A0.map encD) := hA
    have hB' : Ko [.int c, .int 1, .int (N : Int), .list ((things ts).map DN)] = some (B0.map encD) := hB
    clear Qy hA hB hz hz2 bd
    simp only [Hm, L2.compEnv, Cg, List.map_cons, List.map_nil, masked]
    walk_at "pu"
    rfl
  have lts := mZ encD
  have hres : ∀ (A B : List Thing), some ([A, B, [some ((a : Int), (h : Int))]].map encL) = some [encL A, encL B, .list [.tuple [.int (a : Int), .int (h : Int)]]] := fun A B => rfl
  have hfl : ∀ A : List Thing, Fp (A.map encD) = true := Ru
  have run : ∀ (A B C : List Thing), (Jh 6 (Aa 2) (RC (Gy (Aa 3) (BV (Fl (Ae Az (Aa 6) (Aa 2)) (GC (Ar CG (Ab (Aa 3) Ag))) Gs))))) [.sh (.tuple [.int (t : Int), .int (w : Int), .int (st : Int)]), .sh (.int (h : Int)), .sh (.int (a : Int)), .sh (encL ts), .sh (.int c), .sh (.list ((things ts).map DN)), .ow [encL A0, encL B0]]
      = some (.nx [.sh (.tuple [.int (t : Int), .int (w : Int), .int (st : Int)]), .sh (.int (h : Int)), .sh (.int (a : Int)), .sh (encL ts), .sh (.int c), .sh (.list ((things ts).map DN)), .ow [encL A, encL B]]) →
      Mw [.tuple [.int (t : Int), .int (w : Int), .int (st : Int)], .int (h : Int), .int (a : Int), encL ts, .int c] = some ([A, B, [some ((a : Int), (h : Int))]].map encL) := by
    intro A B C hs
    refine Hy rfl ?_
    unfold Y5
    refine BJ (ρ' := [.sh (.tuple [.int (t : Int), .int (w : Int), .int (st : Int)]), .sh (.int (h : Int)), .sh (.int (a : Int)), .sh (encL ts), .sh (.int c), .sh (.list ((things ts).map DN)), .no]) ?_ ?_
    · show (vS (BV _) _).bind _ = _
      unfold vS BV
      rw [Qy]
      rfl
    · refine BJ (ρ' := [.sh (.tuple [.int (t : Int), .int (w : Int), .int (st : Int)]), .sh (.int (h : Int)), .sh (.int (a : Int)), .sh (encL ts), .sh (.int c), .sh (.list ((things ts).map DN)), .ow [encL A0, encL B0]]) ?_ ?_
      · show (vL _ _).bind _ = _
        unfold vL
        rw [Js]
        rfl
      · refine BJ hs ?_
        clear hs Js Qy hA hB
        walk_at "pu"
        rfl
  have eL : ∀ A : List Thing, La (encL A) = some (A.map encD) := fun A => rfl
  have eln : CG [encL ts] = some (.int (ts.length : Int)) := by show some (PyData.int ((ts.map encD).length : Int)) = _; rw [List.length_map]
  have Rv : ∀ A : List Thing, A.length = N → ts.length + (A.drop ts.length).length < 16777216 := fun A hA => by rw [List.length_drop]; omega
  match a, ha with
  | 0, _ =>
    refine ⟨ts ++ A0.drop ts.length, B0, run _ _ [] ?_, by rw [List.length_append, List.length_drop]; omega, lB, ?_⟩
    · have e1 := lts A0 ts.length
      have e2 := Rv A0 lA
      have e3 := hfl (ts ++ A0.drop ts.length)
      rw [List.map_append] at e3
      have e4 : Az (.list [encL A0, encL B0]) (.int ((0 : Nat) : Int)) = some (encL A0) := rfl
      have e5 : Dz 2 ((0 : Nat) : Int) = some 0 := rfl
      have e6 : encL (ts ++ A0.drop ts.length) = .list (ts.map encD ++ (A0.drop ts.length).map encD) := by unfold encL; rw [List.map_append]
      rw [e6]
      clear run hres Js Qy hA hB hfl Rv lts
      walk_at "pu"
    · exact List.take_left' rfl
  | 1, _ =>
    refine ⟨A0, ts ++ B0.drop ts.length, run _ _ [] ?_, lA, by rw [List.length_append, List.length_drop]; omega, ?_⟩
    · have e1 := lts B0 ts.length
      have e2 := Rv B0 lB
      have e3 := hfl (ts ++ B0.drop ts.length)
      rw [List.map_append] at e3
      have e4 : Az (.list [encL A0, encL B0]) (.int ((1 : Nat) : Int)) = some (encL B0) := rfl
      have e5 : Dz 2 ((1 : Nat) : Int) = some 1 := rfl
      have e6 : encL (ts ++ B0.drop ts.length) = .list (ts.map encD ++ (B0.drop ts.length).map encD) := by unfold encL; rw [List.map_append]
      rw [e6]
      clear run hres Js Qy hA hB hfl Rv lts
      walk_at "pu"
    · exact List.take_left' rfl
end LL
namespace LL
open PySem L2
def Hn (P : PP) (s : List Thing) : List Thing := P.foldl (fun s p => s.set p.1 (some p.2)) s
theorem dB : ∀ (Y' X Z : List Thing), Hn (Ep X.length Y') (X ++ List.replicate Y'.length none ++ Z) = X ++ Y' ++ Z
  | [], X, Z => rfl
  | none :: r, X, Z => by
    have ih := dB r (X ++ [none]) Z
    rw [List.length_append] at ih
    show Hn (Ep (X.length + 1) r) (X ++ List.replicate (r.length + 1) none ++ Z) = _
    have e1 : X ++ List.replicate (r.length + 1) none ++ Z = X ++ [none] ++ List.replicate r.length none ++ Z := by rw [List.replicate_succ]; simp
    have e2 : X ++ none :: r ++ Z = X ++ [none] ++ r ++ Z := by simp
    rw [e1, e2]
    exact ih
  | some x :: r, X, Z => by
    have ih := dB r (X ++ [some x]) Z
    rw [List.length_append] at ih
    show Hn (Ep (X.length + 1) r) ((X ++ List.replicate (r.length + 1) none ++ Z).set X.length (some x)) = _
    have e1 : (X ++ List.replicate (r.length + 1) none ++ Z).set X.length (some x) = X ++ [some x] ++ List.replicate r.length none ++ Z := by
      rw [List.replicate_succ, List.append_assoc, List.set_append_right _ _ (Nat.le_refl _), Nat.sub_self]
      simp
    have e2 : X ++ some x :: r ++ Z = X ++ [some x] ++ r ++ Z := by simp
    rw [e1, e2]
    exact ih
theorem AIE (P : PP) : ∀ s : List Thing, (Hn P s).length = s.length := by
  unfold Hn
  induction P with
  | nil => exact fun s => rfl
  | cons p P ih => intro s; rw [List.foldl_cons, ih]; simp
theorem Wo : ∀ (n k : Nat) (P : PP), P.Pairwise (fun a b => a.1 < b.1) → (∀ p ∈ P, k ≤ p.1 ∧ p.1 < k + n) → ∃ Y : List Thing, Y.length = n ∧ Ep k Y = P
  | 0, k, [], _, _ => ⟨[], rfl, rfl⟩
  | 0, k, p :: P, _, h => by
    have := h p (.head _)
    omega
  | n + 1, k, [], _, _ => by
    obtain ⟨Y, h1, h2⟩ := Wo n (k + 1) [] .nil (fun p hp => by cases hp)
    exact ⟨none :: Y, by simp [h1], h2⟩
  | n + 1, k, p :: P, hs, h => by
    obtain ⟨hs1, hs2⟩ := List.pairwise_cons.mp hs
    by_cases hk : p.1 = k
    · obtain ⟨Y, h1, h2⟩ := Wo n (k + 1) P hs2 (fun q hq => by
        have a := hs1 q hq
        have b := h q (.tail _ hq)
        omega)
      refine ⟨some p.2 :: Y, by simp [h1], ?_⟩
      show (k, p.2) :: Ep (k + 1) Y = p :: P
      rw [h2, ← hk]
    · obtain ⟨Y, h1, h2⟩ := Wo n (k + 1) (p :: P) hs (fun q hq => by
        have c := h p (.head _)
        have b := h q hq
        rcases List.mem_cons.mp hq with rfl | hq
        · omega
        · have a := hs1 q hq
          omega)
      exact ⟨none :: Y, by simp [h1], h2⟩
theorem AIe {fi : BW} {W : Nat} (hW : W < 16777216) {ρ : Bc} (h : fi ρ = some ((List.range W).map Gb)) : Ca fi (Cg 0) Cq (Bt Ag) 1 [] ρ = some ((List.replicate W (none : Thing)).map encD) := by
  rw [Hb h (by simpa using hW), Oj Gb (fun _ => encD none)]
  · congr 1
    rw [List.map_replicate, List.map_const', List.length_range]
  · intro i _
    exact ⟨_, rfl, rfl⟩
theorem AFT {fi : BW} {bs : D → Am → Option Am} {F : Ao} {ρ : Am} {items : List D} (h : fi (full ρ) = some items) : W0 fi bs F ρ = Ea bs F items ρ := by
  unfold W0
  rw [h]
  rfl
theorem nF {t : Int} {w st hh : Nat} (c more : Int) (bd : Bd t (w : Int) (st : Int)) (h4 : hh ≤ 4) : ∃ ts : List Thing, JK [.tuple [.int t, .int (w : Int), .int (st : Int)], .int (hh : Int), .int c, .int more] = some (ts.map encD) ∧ Ef ts ∧ ts.length = 2 ^ hh * w ∧ ((keysOf ts).length : Int) = min ((2 ^ hh * w : Nat) : Int) (max 0 more) := by
  have w1 := bd.w1
  have w20 := bd.hi
  have hz := J8 (k := hh) (w := w) h4 (by omega) (by omega)
  have Hv := Xm (h := (hh : Int)) (by omega) (by omega)
  have hTw : tw (hh : Int) * (w : Int) = ((2 ^ hh * w : Nat) : Int) := by rw [Vx, Int.natCast_mul]
  have hTs : -18446744073709551616 < tw (hh : Int) ∧ tw (hh : Int) < 18446744073709551616 := by
    rcases Yb (h := (hh : Int)) (by omega) (by omega) with e | e | e | e | e <;> omega
  have hhs : -18446744073709551616 < (hh : Int) ∧ (hh : Int) < 18446744073709551616 := by omega
  generalize hT2 : tw (hh : Int) = T2 at *
  generalize hSz : 2 ^ hh * w = Z at *
  obtain ⟨many, IW⟩ : ∃ many : Nat, min (Z : Int) (max 0 more) = (many : Int) := ⟨(min (Z : Int) (max 0 more)).toNat, by omega⟩
  have hmz : many ≤ Z := by omega
  have hg : Ek [.int (Z : Int)] = some ((List.range Z).map Gb) := sS Z (by omega)
  have wh := ZQ (c := BP (Ae Lp (Ar CG (Ab (Aa 5) Ag)) (Ar Ml (Ab (Ad (.int 0)) (Ab (Aa 3) Ag))))) (F := Zb) Z
    (fun k ρ => ∃ A : List Nat, ρ = [.sh (.tuple [.int t, .int (w : Int), .int (st : Int)]), .sh (.int (hh : Int)), .sh (.int c), .sh (.int more), .sh (.int (Z : Int)), .ow (A.map Gb), .no, .no, .no] ∧ A.Pairwise (· < ·) ∧ (∀ a ∈ A, a < Z) ∧ A.length + k = Z ∧ many ≤ A.length) ?_ 1000000 0
    [.sh (.tuple [.int t, .int (w : Int), .int (st : Int)]), .sh (.int (hh : Int)), .sh (.int c), .sh (.int more), .sh (.int (Z : Int)), .ow ((List.range Z).map Gb), .no, .no, .no] ⟨List.range Z, rfl, List.pairwise_lt_range, fun a ha => List.mem_range.mp ha, by simp, by simpa using hmz⟩ (Nat.zero_le _) (by omega)
  · obtain ⟨k, ρ', hw, ⟨A, rfl, h1, h2, h3, h4'⟩, hend, _⟩ := wh
    have hAl : A.length = many := by
      have he : (BP (Ae Lp (Ar CG (Ab (Aa 5) Ag)) (Ar Ml (Ab (Ad (.int 0)) (Ab (Aa 3) Ag))))) (full [.sh (.tuple [.int t, .int (w : Int), .int (st : Int)]), .sh (.int (hh : Int)), .sh (.int c), .sh (.int more), .sh (.int (Z : Int)), .ow (A.map Gb), .no, .no, .no]) = some (decide (max 0 more < (A.length : Int))) := by
        clear hend hw Hv hTw hT2 hSz IW hg h2 hz
        walk_at "pu"
      rw [he] at hend
      have := of_decide_eq_false (Option.some.inj hend)
      omega
    have mc := Ej c (b := 2) (by decide)
    obtain ⟨v, hv, ev⟩ := Jb ([.int 1, .int (G9 40)] : List D) (i := c % 2) mc.1 mc.2
    obtain ⟨mu, rfl, mu0⟩ : ∃ mu : Int, v = .int mu ∧ 0 < mu := by
      simp only [List.mem_cons, List.mem_nil_iff, or_false] at hv
      rcases hv with rfl | rfl
      · exact ⟨1, rfl, by decide⟩
      · exact ⟨_, rfl, V2 _⟩
    have lp := Yq (bs := Kf 7) (F := bJ) (lo := 0)
      (fun i ρ => ∃ (P : PP) (s9 s10 : Sl), ρ = [.sh (.tuple [.int t, .int (w : Int), .int (st : Int)]), .sh (.int (hh : Int)), .sh (.int c), .sh (.int more), .sh (.int (Z : Int)), .ow (A.map Gb), .ow ((Hn P (List.replicate Z none)).map encD), s9, s10] ∧ P.map (·.1) = A.take i ∧ P.map (fun p => p.2.1) = (List.range i).map (fun j : Nat => 3 * (j : Int) * mu - c % G9 57)) many ?_
      [.sh (.tuple [.int t, .int (w : Int), .int (st : Int)]), .sh (.int (hh : Int)), .sh (.int c), .sh (.int more), .sh (.int (Z : Int)), .ow (A.map Gb), .ow ((List.replicate Z (none : Thing)).map encD), .no, .no] ⟨[], _, _, rfl, rfl, rfl⟩
    · obtain ⟨ρ2, hf, P, s9, s10, rfl, hP1, hP2⟩ := lp
      rw [← hAl, List.take_length] at hP1
      obtain ⟨Y, hY1, hY2⟩ := Wo Z 0 P (by
        have : (P.map (·.1)).Pairwise (· < ·) := by rw [hP1]; exact h1
        exact List.pairwise_map.mp this) (fun p hp => by
        have := h2 p.1 (by rw [← hP1]; exact List.mem_map_of_mem hp)
        omega)
      have hlay : Hn P (List.replicate Z none) = Y := by
        have := dB Y [] []
        rw [List.nil_append, List.nil_append, List.append_nil, List.append_nil, hY1] at this
        have e : Ep ([] : List Thing).length Y = P := hY2
        rw [e] at this
        exact this
      have hkeys : keysOf Y = (List.range many).map (fun j : Nat => 3 * (j : Int) * mu - c % G9 57) := by
        rw [dG, ← Yo Y 0, hY2, List.map_map]
        exact hP2
      refine ⟨Y, ?_, ?_, hY1, ?_⟩
      · rw [hlay] at hf
        have hrm := R4 (many : Int) ⟨by omega, by omega⟩
        rw [Int.toNat_natCast] at hrm
        have c2 := AIe (fi := Bm Ek (Ab (Aa 4) Ag)) (W := Z) (by omega) (ρ := [some (.tuple [.int t, .int (w : Int), .int (st : Int)]), some (.int (hh : Int)), some (.int c), some (.int more), some (.int (Z : Int)), none, none, none, none]) (by
          clear hf hw hend Hv hTw hT2 hSz IW h2 hz hkeys hlay hP1 hP2 hY2
          walk_at "pu")
        have hfit : (List.range Z).length < 16777216 := by simp; omega
        have hp : V6 (Ab (Aa 4) Ag) [some (.tuple [.int t, .int (w : Int), .int (st : Int)]), some (.int (hh : Int)), some (.int c), some (.int more), some (.int (Z : Int)), none, none, none, none] = some ((List.range Z).map Gb) := by
          unfold V6
          clear hf hw hend Hv hTw hT2 hSz IW h2 hz hkeys hlay hP1 hP2 hY2 c2
          walk_at "pu"
        refine Hy rfl ?_
        clear hend hkeys hlay hP1 hP2 hY2 h2 hz hSz hT2 ev hv
        generalize (List.range Z).map Gb = RZ at *
        generalize (List.replicate Z (none : Thing)).map encD = RN at *
        generalize Y.map encD = YD at *
        have AOl : (A.map Gb).length = many := by rw [List.length_map]; exact hAl
        generalize A.map Gb = AD at *
        unfold ZP
        generalize Ca (Bm Ek (Ab (Aa 4) Ag)) (Cg 0) Cq (Bt Ag) 1 [] = CC at *
        refine BJ (ρ' := [.sh (.tuple [.int t, .int (w : Int), .int (st : Int)]), .sh (.int (hh : Int)), .sh (.int c), .sh (.int more), .sh (.int (Z : Int)), .no, .no, .no, .no]) (by clear hf hw c2 hp IW; walk_at "pu") ?_
        refine BJ (ρ' := [.sh (.tuple [.int t, .int (w : Int), .int (st : Int)]), .sh (.int (hh : Int)), .sh (.int c), .sh (.int more), .sh (.int (Z : Int)), .ow RZ, .no, .no, .no]) (by clear hf hw c2 IW hTw; walk_at "pu") ?_
        refine BJ hw ?_
        refine BJ (ρ' := [.sh (.tuple [.int t, .int (w : Int), .int (st : Int)]), .sh (.int (hh : Int)), .sh (.int c), .sh (.int more), .sh (.int (Z : Int)), .ow AD, .ow RN, .no, .no]) (by clear hf hw hp IW hTw; walk_at "pu") ?_
        refine BJ ((AFT (items := Fi 0 many) (by clear hf hw c2 hp IW hTw; walk_at "pu")).trans hf) (by clear hf hw c2 hp IW hTw; walk_at "pu")
      · unfold Ef
        rw [hkeys, List.pairwise_map]
        refine List.pairwise_lt_range.imp fun {a b} hab => ?_
        have : 3 * (a : Int) * mu < 3 * (b : Int) * mu := Int.mul_lt_mul_of_pos_right (by omega) mu0
        omega
      · rw [hkeys, List.length_map, List.length_range, IW]
    · rintro i ρ hi ⟨P, s9, s10, rfl, hP1, hP2⟩
      rw [Int.zero_add]
      obtain ⟨z, hz', z0⟩ := Z2 c (i : Int)
      have mi := Ej (i : Int) (b := 2) (by decide)
      obtain ⟨u, hu, eu⟩ := Jb ([.int (G9 9), .int 3] : List D) (i := (i : Int) % 2) mi.1 mi.2
      obtain ⟨dv, rfl, dv0⟩ : ∃ dv : Int, u = .int dv ∧ 0 < dv ∧ dv < 1073741824 := by
        simp only [List.mem_cons, List.mem_nil_iff, or_false] at hu
        rcases hu with rfl | rfl
        · exact ⟨_, rfl, V2 _, by unfold G9; decide⟩
        · exact ⟨3, rfl, by decide, by decide⟩
      have hAi : i < A.length := by omega
      have ALe : Cw (A.map Gb) (i : Int) = some (.int ((A[i] : Nat) : Int)) := by
        rw [LK]
        simp [hAi, Gb]
      have hlt : A[i] < (Hn P (List.replicate Z none)).length := by
        rw [AIE, List.length_replicate]
        exact h2 _ (List.getElem_mem hAi)
      have hix := Ly hlt
      refine ⟨_, [.sh (.tuple [.int t, .int (w : Int), .int (st : Int)]), .sh (.int (hh : Int)), .sh (.int c), .sh (.int more), .sh (.int (Z : Int)), .ow (A.map Gb), .ow ((Hn (P ++ [(A[i], (3 * (i : Int) * mu - c % G9 57, z % dv - 1))]) (List.replicate Z none)).map encD), .sh (.int (i : Int)), .sh (.int (z % dv - 1))], rfl, ?_, _, _, _, rfl, ?_, ?_⟩
      · have hsn : (Hn (P ++ [(A[i], (3 * (i : Int) * mu - c % G9 57, z % dv - 1))]) (List.replicate Z none)).map encD = ((Hn P (List.replicate Z none)).map encD).set A[i] (.tuple [.int (3 * (i : Int) * mu - c % G9 57), .int (z % dv - 1)]) := by
          unfold Hn
          rw [List.foldl_append]
          show (List.set (List.foldl (fun (s : List Thing) (p : Nat × Pr) => s.set p.1 (some p.2)) (List.replicate Z none) P) A[i] (some (3 * (i : Int) * mu - c % G9 57, z % dv - 1))).map encD = _
          rw [List.map_set]
          rfl
        rw [hsn]
        have b1 : -18446744073709551616 < (i : Int) ∧ (i : Int) < 18446744073709551616 := by omega
        have b3 : -18446744073709551616 < 3 * (i : Int) ∧ 3 * (i : Int) < 18446744073709551616 := by omega
        generalize (Hn P (List.replicate Z none)) = V at *
        generalize A[i] = q at *
        clear hsn hP1 hP2 hw hend h1 h2 h3 h4' hAl Hv hTw hT2 hSz IW hg hv hu hz hlt hAi hi hmz hTs hhs mi mc
        unfold bJ
        refine BJ (ρ' := [.sh (.tuple [.int t, .int (w : Int), .int (st : Int)]), .sh (.int (hh : Int)), .sh (.int c), .sh (.int more), .sh (.int (Z : Int)), .ow (A.map Gb), .ow (V.map encD), .sh (.int (i : Int)), .sh (.int (z % dv - 1))]) (by clear ev ALe hix; walk_at "pu") ?_
        clear eu hz'
        walk_at "pu"
      · rw [List.map_append, hP1, List.take_succ, List.getElem?_eq_getElem hAi]
        rfl
      · rw [List.map_append, hP2, List.range_succ, List.map_append]
        rfl
  · rintro k ρ ⟨A, rfl, h1, h2, h3, h4'⟩
    refine ⟨decide (max 0 more < (A.length : Int)), by clear h1 h2 h3 h4' Hv hTw hT2 hSz IW hg hz; walk_at "pu", fun hb => ?_⟩
    have hb' := of_decide_eq_true hb
    obtain ⟨z, hz', _⟩ := Z2 c (A.length : Int)
    have mp := Ej (z / 7) (b := (A.length : Int)) (by omega)
    have ml : 0 < (A.length : Int) := by omega
    have hfit : A.length < 16777216 := by omega
    refine ⟨by omega, [.sh (.tuple [.int t, .int (w : Int), .int (st : Int)]), .sh (.int (hh : Int)), .sh (.int c), .sh (.int more), .sh (.int (Z : Int)), .ow ((A.map Gb).eraseIdx (z / 7 % (A.length : Int)).toNat), .no, .no, .no], ?_, A.eraseIdx (z / 7 % (A.length : Int)).toNat, ?_, ?_, ?_, ?_, ?_⟩
    · have hm0 := mp.1
      have hm1 := mp.2
      clear h1 h2 h3 h4' hb hb' hmz mp hg Hv hTw hT2 hSz IW hz hTs hhs
      unfold Zb aM
      walk_at "pu"
    · rw [j5]
    · exact h1.sublist (List.eraseIdx_sublist _ _)
    · exact fun a ha => h2 a ((List.eraseIdx_sublist _ _).subset ha)
    · rw [List.length_eraseIdx_of_lt (by omega)]; omega
    · rw [List.length_eraseIdx_of_lt (by omega)]; omega
end LL
namespace LL
open PySem L2
structure Qs (ts S : List Thing) : Prop where
  len : S.length = ts.length
  way : S = ts ∨ ∃ (p q : Nat) (x : Int × Int), ts[p]? = some (some x) ∧ ts[q]? = some none ∧ (∀ i, (p < i ∧ i < q ∨ q < i ∧ i < p) → ts[i]? = some none) ∧ S = ts.set q (some x)
theorem ABJ {ts : List Thing} (hl : ts.length ≤ 320) (c : Int) : ∃ S : List Thing, Mz [encL ts, .int c] = some (S.map encD) ∧ Qs ts S := by
  have hg : Ek [.int ts.length] = some (Fi 0 ts.length) := by
    rw [R4 _ ⟨by omega, by omega⟩]
    rfl
  obtain ⟨P, hP⟩ : ∃ P, P = (List.range ts.length).filter (fun i => Eg (ts.getD i none)) := ⟨_, rfl⟩
  have hc : Ca (Bm Ek (Ab (Ar CG (Ab (Aa 0) Ag)) Ag)) (Cg 0) (BP (Ae Cm (Ae Az (Aa 1) (Aa 0)) (Bt Ag))) (Aa 0) 1 [0] [some (.list (ts.map encD)), some (.int c), none, none, none, none, none] = some ((P.map fun i : Nat => 0 + (i : Int)).map PyData.int) := by
    rw [Hb (items := Fi 0 ts.length) (by walk_at "pu") (by rw [ZW]; omega)]
    unfold Fi
    rw [Pu (fun i : Nat => .int (0 + (i : Int))) (fun i => Eg (ts.getD i none)) (fun i : Nat => .int (0 + (i : Int))), hP, List.map_map]
    · rfl
    · intro i hi
      have hi' : i < ts.length := List.mem_range.mp hi
      refine ⟨_, rfl, ?_, fun _ => rfl⟩
      have e : Cw (ts.map encD) (0 + (i : Int)) = some (encD (ts.getD i none)) := by
        rw [Int.zero_add, LK]
        simp [hi', List.getD]
      show BP _ [some (.int (0 + (i : Int))), some (.list (ts.map encD))] = some (!decide (ts.getD i none = none))
      walk_at "pu"
  show ∃ S : List Thing, Mz [.list (ts.map encD), .int c] = some (S.map encD) ∧ Qs ts S
  by_cases hPn : P = []
  · refine ⟨ts, Hy rfl ?_, rfl, .inl rfl⟩
    have qW : (P.map fun i : Nat => 0 + (i : Int)) = [] := by rw [hPn]; rfl
    rw [qW] at hc
    clear hP hPn qW hg
    unfold Wa
    walk_at "pu"
    rfl
  have hPl : 0 < (P.length : Int) := by
    cases P with
    | nil => exact absurd rfl hPn
    | cons a r => simp
  have AOs : P.length ≤ 320 := by
    rw [hP]
    have := List.length_filter_le (fun i => Eg (ts.getD i none)) (List.range ts.length)
    rw [List.length_range] at this
    omega
  have mi := Ej c hPl
  obtain ⟨v, hv, ev⟩ := Jb ((P.map fun i : Nat => 0 + (i : Int)).map PyData.int) (i := c % (P.length : Int)) mi.1 (by simp only [List.length_map]; exact mi.2)
  obtain ⟨h, hh, rfl⟩ := List.mem_map.mp hv
  obtain ⟨p, hpP, rfl⟩ := List.mem_map.mp hh
  rw [hP] at hpP
  obtain ⟨hpr, hpf⟩ := List.mem_filter.mp hpP
  have hpn : p < ts.length := List.mem_range.mp hpr
  obtain ⟨x, hx⟩ : ∃ x, ts[p]? = some (some x) := by
    have e : ts.getD p none = ts[p] := by simp [List.getD, hpn]
    rw [e] at hpf
    cases e2 : ts[p] with
    | none => rw [e2] at hpf; cases hpf
    | some x => exact ⟨x, by rw [List.getElem?_eq_getElem hpn, e2]⟩
  have AOh : ¬ (P.map fun i : Nat => 0 + (i : Int)) = [] := by simpa using hPn
  generalize hQ : (P.map fun i : Nat => 0 + (i : Int)) = Q at *
  have hQl : Q.length = P.length := by rw [← hQ]; simp
  clear hv hh hpP hpr hpf hPn hQ
  have s2 := Ej (c / 1000) (b := 2) (by decide)
  obtain ⟨dv, hdv⟩ : ∃ dv, dv = c / 1000 % 2 := ⟨_, rfl⟩
  obtain ⟨s, hs⟩ : ∃ s, s = 1 - 2 * dv := ⟨_, rfl⟩
  have hs1 : s = 1 ∨ s = -1 := by omega
  have wh := ZQ (c := Gi (BP (Hs HF Ht (Ad (.int 0)) (Aa 6) (Ar CG (Ab (Aa 0) Ag)))) (BP (Ae Bx (Ae Az (Aa 0) (Aa 6)) (Bt Ag)))) (F := Zw) ts.length
    (fun k ρ => ρ = [.sh (.list (ts.map encD)), .sh (.int c), .ow (ts.map encD), .sh (.list (Q.map PyData.int)), .sh (.int (0 + (p : Int))), .ow ((List.range (k + 1)).map fun i : Nat => .int (0 + (p : Int) + (i : Int) * s)), .sh (.int (0 + (p : Int) + ((k + 1 : Nat) : Int) * s))] ∧
      ∀ i : Nat, 1 ≤ i → i ≤ k → ∃ q : Nat, (q : Int) = 0 + (p : Int) + (i : Int) * s ∧ ts[q]? = some none) ?_ 1000000 0
    [.sh (.list (ts.map encD)), .sh (.int c), .ow (ts.map encD), .sh (.list (Q.map PyData.int)), .sh (.int (0 + (p : Int))), .ow [.int (0 + (p : Int))], .sh (.int (0 + (p : Int) + s))] ⟨by simp, fun i h1 h2 => by omega⟩ (Nat.zero_le _) (by omega)
  case refine_1 =>
    rintro k ρ ⟨rfl, hall⟩
    generalize hpos : 0 + (p : Int) + ((k + 1 : Nat) : Int) * s = pos
    by_cases h1 : 0 ≤ pos
    · by_cases h2 : pos < (ts.length : Int)
      · obtain ⟨q, rfl⟩ : ∃ q : Nat, pos = (q : Int) := ⟨pos.toNat, by omega⟩
        have hq : q < ts.length := by omega
        have hat : Cw (ts.map encD) (q : Int) = some (encD ts[q]) := by rw [LK]; simp [hq]
        refine ⟨decide (ts[q] = none), ?_, fun hb => ?_⟩
        · clear hc ev hx mi hP hg hall hpos hs hs1 s2 hdv
          walk_at "pu"
        · have hb' : ts[q] = none := of_decide_eq_true hb
          have hk : k < ts.length := by
            rcases hs1 with rfl | rfl <;> omega
          have hk2 : k + 1 < 16777216 := by omega
          refine ⟨hk, [.sh (.list (ts.map encD)), .sh (.int c), .ow (ts.map encD), .sh (.list (Q.map PyData.int)), .sh (.int (0 + (p : Int))), .ow ((List.range (k + 1)).map (fun i : Nat => .int (0 + (p : Int) + (i : Int) * s)) ++ [.int (q : Int)]), .sh (.int ((q : Int) + 1 - 2 * (c / 1000 % 2)))], ?_, ?_, ?_⟩
          · clear hc ev hx mi hP hg hall hpos hs hs1 s2 hdv
            unfold Zw
            have e1 : (List.range (k + 1)).length = k + 1 := List.length_range
            walk_at "pu"
          · have e2 : (q : Int) + 1 - 2 * (c / 1000 % 2) = 0 + (p : Int) + ((k + 1 + 1 : Nat) : Int) * s := by
              rw [← hpos, ← hdv]
              rcases hs1 with h | h
              · rw [h]; omega
              · rw [h]; omega
            rw [e2, ← hpos, List.range_succ (n := k + 1), List.map_append]
            rfl
          · intro i h3 h4
            by_cases h5 : i = k + 1
            · subst h5
              exact ⟨q, hpos.symm, by rw [List.getElem?_eq_getElem hq, hb']⟩
            · exact hall i h3 (by omega)
      · refine ⟨false, ?_, fun hb => by cases hb⟩
        clear hc ev hx mi hP hg hall hpos hs hs1 s2 hdv
        walk_at "pu"
    · refine ⟨false, ?_, fun hb => by cases hb⟩
      clear hc ev hx mi hP hg hall hpos hs hs1 s2 hdv
      walk_at "pu"
  obtain ⟨k, ρ', hw, ⟨rfl, hall⟩, _, hkB⟩ := wh
  have mj := Ej (c / 2000) (b := ((k + 1 : Nat) : Int)) (by omega)
  obtain ⟨j, hj⟩ : ∃ j : Nat, c / 2000 % ((k + 1 : Nat) : Int) = (j : Int) := ⟨(c / 2000 % ((k + 1 : Nat) : Int)).toNat, by omega⟩
  have hjk : j < k + 1 := by omega
  have hfr : Cw ((List.range (k + 1)).map fun i : Nat => PyData.int (0 + (p : Int) + (i : Int) * s)) (c / 2000 % ((k + 1 : Nat) : Int)) = some (.int (0 + (p : Int) + (j : Int) * s)) := by
    rw [hj, LK]
    simp [hjk]
  obtain ⟨q, hq, hqn, hcase⟩ : ∃ q : Nat, 0 + (p : Int) + (j : Int) * s = (q : Int) ∧ q < ts.length ∧ (q = p ∨ (ts[q]? = some none ∧ ∀ i, (p < i ∧ i < q ∨ q < i ∧ i < p) → ts[i]? = some none)) := by
    by_cases hj0 : j = 0
    · subst hj0
      exact ⟨p, by simp, hpn, .inl rfl⟩
    · obtain ⟨q, hq, hqt⟩ := hall j (by omega) (by omega)
      refine ⟨q, hq.symm, (List.getElem?_eq_some_iff.mp hqt).1, .inr ⟨hqt, fun i hi => ?_⟩⟩
      obtain ⟨i', hi1, hi2, hi3⟩ : ∃ i' : Nat, 1 ≤ i' ∧ i' ≤ j ∧ (i : Int) = 0 + (p : Int) + (i' : Int) * s := by
        rcases hs1 with rfl | rfl
        · exact ⟨i - p, by omega, by omega, by omega⟩
        · exact ⟨p - i, by omega, by omega, by omega⟩
      obtain ⟨q', hq', ht'⟩ := hall i' hi1 (by omega)
      have : q' = i := by omega
      rw [← this]
      exact ht'
  rw [hq] at hfr
  have hat : Cw (ts.map encD) (0 + (p : Int)) = some (encD (some x)) := by
    rw [Int.zero_add, LK, List.getElem?_map, hx]
    rfl
  have hix : Dz ts.length (q : Int) = some q := Ly hqn
  have Ke : (ts.map encD).set q (encD (some x)) = (ts.set q (some x)).map encD := by rw [List.map_set]
  have hlen : Q.length = P.length := hQl
  have hk1 : (List.range (k + 1)).length = k + 1 := List.length_range
  clear hP mi hall hkB
  refine ⟨ts.set q (some x), Hy rfl ?_, by simp, ?_⟩
  · unfold Wa
    refine BJ (ρ' := [.sh (.list (ts.map encD)), .sh (.int c), .ow (ts.map encD), .no, .no, .no, .no]) (by clear hw hfr Ke; walk_at "pu") ?_
    refine BJ (ρ' := [.sh (.list (ts.map encD)), .sh (.int c), .ow (ts.map encD), .sh (.list (Q.map PyData.int)), .no, .no, .no]) (by clear hw hfr Ke; walk_at "pu") ?_
    refine BJ (ρ' := [.sh (.list (ts.map encD)), .sh (.int c), .ow (ts.map encD), .sh (.list (Q.map PyData.int)), .no, .no, .no]) (by clear hw hfr Ke; walk_at "pu") ?_
    refine BJ (ρ' := [.sh (.list (ts.map encD)), .sh (.int c), .ow (ts.map encD), .sh (.list (Q.map PyData.int)), .sh (.int (0 + (p : Int))), .no, .no]) (by clear hw hfr Ke; walk_at "pu") ?_
    refine BJ (ρ' := [.sh (.list (ts.map encD)), .sh (.int c), .ow (ts.map encD), .sh (.list (Q.map PyData.int)), .sh (.int (0 + (p : Int))), .ow [.int (0 + (p : Int))], .no]) (by clear hw hfr Ke; walk_at "pu") ?_
    refine BJ (ρ' := [.sh (.list (ts.map encD)), .sh (.int c), .ow (ts.map encD), .sh (.list (Q.map PyData.int)), .sh (.int (0 + (p : Int))), .ow [.int (0 + (p : Int))], .sh (.int (0 + (p : Int) + s))]) (by
      have e2 : 0 + (p : Int) + s = 0 + (p : Int) + 1 - 2 * (c / 1000 % 2) := by omega
      rw [e2]
      clear hw hfr Ke hs hdv s2 e2
      walk_at "pu") ?_
    refine BJ hw ?_
    refine BJ (ρ' := [.sh (.list (ts.map encD)), .sh (.int c), .ow ((ts.set q (some x)).map encD), .sh (.list (Q.map PyData.int)), .sh (.int (0 + (p : Int))), .ow ((List.range (k + 1)).map fun i : Nat => .int (0 + (p : Int) + (i : Int) * s)), .sh (.int (0 + (p : Int) + ((k + 1 : Nat) : Int) * s))]) (by
      have kp : (0 : Int) < ((k + 1 : Nat) : Int) := by omega
      rw [← Ke]
      clear hs hj mj hw hdv Ke
      walk_at "pu") ?_
    clear hw hfr Ke
    walk_at "pu"
  · rcases hcase with rfl | ⟨h1, h2⟩
    · left
      have e : ts[q]'hqn = some x := by
        have := hx
        rw [List.getElem?_eq_getElem hqn] at this
        exact Option.some.inj this
      have e2 := List.set_getElem_self (as := ts) (i := q) hqn
      rw [e] at e2
      exact e2
    · right
      exact ⟨p, q, x, hx, h1, h2, rfl⟩
end LL
namespace LL
open PySem L2
def R9 (last : Thing) : List Thing → Thing
  | [] => last
  | none :: r => R9 last r
  | some x :: r => R9 (some x) r
theorem Wh : ∀ (A : List Thing) (last : Thing) (i : Nat) (R : List Thing), (keysOf (last :: A)).Pairwise (· < ·) → Dr last i (A ++ R) = Dr (R9 last A) (i + A.length) R
  | [], last, i, R, _ => rfl
  | none :: r, last, i, R, h => by
    have h' : (keysOf (last :: r)).Pairwise (· < ·) := by
      cases last with
      | none => exact h
      | some y => exact h
    have := Wh r last (i + 1) R h'
    rw [List.cons_append, List.length_cons]
    show Dr last (i + 1) (r ++ R) = Dr (R9 last r) _ R
    rw [this]
    congr 1
    omega
  | some x :: r, last, i, R, h => by
    have hx : ¬ some x = last := by
      intro e
      subst e
      have h2 : (x.1 :: x.1 :: keysOf r).Pairwise (· < ·) := h
      have := (List.pairwise_cons.mp h2).1 x.1 Bp
      omega
    have h' : (keysOf (some x :: r)).Pairwise (· < ·) := by
      cases last with
      | none => exact h
      | some y => exact (List.pairwise_cons.mp (show (y.1 :: keysOf (some x :: r)).Pairwise (· < ·) from h)).2
    have := Wh r (some x) (i + 1) R h'
    rw [List.cons_append, List.length_cons]
    show (if some x = last then some i else Dr (some x) (i + 1) (r ++ R)) = Dr (R9 (some x) r) _ R
    rw [if_neg hx, this]
    congr 1
    omega
theorem uQ (last : Thing) (R : List Thing) : ∀ (k i : Nat), Dr last i (List.replicate k none ++ R) = Dr last (i + k) R
  | 0, i => rfl
  | k + 1, i => by
    rw [List.replicate_succ, List.cons_append]
    show Dr last (i + 1) _ = _
    rw [uQ last R k (i + 1)]
    congr 1
    omega
theorem AJH {ts : List Thing} (h : Ef ts) : Dr none 0 ts = none := by
  have := Wh ts none 0 [] h
  rw [List.append_nil] at this
  rw [this]
  rfl
theorem Ww {ts : List Thing} (h : Ef ts) : Ci ts = ts := by
  unfold Ci
  rw [AJH h]
theorem ALE (A : List Thing) (x : Int × Int) : ∀ last, R9 last (A ++ [some x]) = some x := by
  induction A with
  | nil => intro last; rfl
  | cons t r ih =>
    intro last
    cases t with
    | none => exact ih last
    | some y => exact ih (some y)
theorem aQ {S : List Thing} {p q : Nat} {a b : Thing} (hp : S[p]? = some a) (hq : S[q]? = some b) (hpq : p < q) (mid : ∀ i, p < i → i < q → S[i]? = some none) :
    S = S.take p ++ a :: (List.replicate (q - p - 1) none ++ b :: S.drop (q + 1)) := by
  have lq : q < S.length := (List.getElem?_eq_some_iff.mp hq).1
  have lp : p < S.length := by omega
  have e1 : S.drop p = a :: S.drop (p + 1) := by
    rw [List.drop_eq_getElem_cons lp]
    congr 1
    exact Option.some.inj ((List.getElem?_eq_getElem lp).symm.trans hp)
  have e2 : S.drop q = b :: S.drop (q + 1) := by
    rw [List.drop_eq_getElem_cons lq]
    congr 1
    exact Option.some.inj ((List.getElem?_eq_getElem lq).symm.trans hq)
  have e3 : (S.drop (p + 1)).take (q - p - 1) = List.replicate (q - p - 1) none := by
    apply List.ext_getElem?
    intro i
    rw [List.getElem?_take, List.getElem?_replicate]
    by_cases hi : i < q - p - 1
    · rw [if_pos hi, if_pos hi, List.getElem?_drop]
      exact mid (p + 1 + i) (by omega) (by omega)
    · rw [if_neg hi, if_neg hi]
  have e4 : S.drop (p + 1) = List.replicate (q - p - 1) none ++ S.drop q := by
    rw [← e3]
    have := (List.take_append_drop (q - p - 1) (S.drop (p + 1))).symm
    rw [List.drop_drop] at this
    have e5 : p + 1 + (q - p - 1) = q := by omega
    rw [e5] at this
    exact this
  rw [← e2, ← e4, ← e1, List.take_append_drop]
theorem mX {S : List Thing} {p q : Nat} {x : Int × Int} (hp : S[p]? = some (some x)) (hq : S[q]? = some (some x)) (hpq : p < q) (mid : ∀ i, p < i → i < q → S[i]? = some none) (hR : Ef (S.set q none)) :
    Ci S = S.set q none ∧ Ci (S.set q none) = S.set q none := by
  refine ⟨?_, Ww hR⟩
  have lq : q < S.length := (List.getElem?_eq_some_iff.mp hq).1
  have hS := aQ hp hq hpq mid
  have hT := aQ (S := S.set q none) (p := p) (q := q) (a := some x) (b := none) (by rw [List.getElem?_set_ne (by omega)]; exact hp) (by rw [List.getElem?_set_self (by omega)]) hpq (fun i h1 h2 => by rw [List.getElem?_set_ne (by omega)]; exact mid i h1 h2)
  rw [List.take_set_of_le (by omega), List.drop_set_of_lt (by omega)] at hT
  have hR2 := hR
  rw [hT] at hR2
  have hA : (keysOf (none :: (S.take p ++ [some x]))).Pairwise (· < ·) := by
    unfold Ef at hR2
    rw [lX, Z3] at hR2
    show (keysOf (S.take p ++ [some x])).Pairwise _
    rw [lX, Z3]
    have := List.pairwise_append.mp hR2
    rw [List.pairwise_append]
    exact ⟨this.1, by simp [keysOf], fun a ha b hb => by
      have hb' : b = x.1 := by simpa [keysOf] using hb
      rw [hb']
      exact this.2.2 a ha x.1 Bp⟩
  have hs : Dr none 0 S = some q := by
    rw [hS]
    have e : S.take p ++ some x :: (List.replicate (q - p - 1) none ++ some x :: S.drop (q + 1)) = (S.take p ++ [some x]) ++ (List.replicate (q - p - 1) none ++ some x :: S.drop (q + 1)) := by simp
    rw [e, Wh _ none 0 _ hA, ALE, uQ]
    show (if some x = some x then some _ else _) = _
    rw [if_pos rfl]
    congr 1
    rw [List.length_append, List.length_take]
    simp
    omega
  unfold Ci
  rw [hs]
end LL
namespace LL
open PySem L2
end LL
namespace L2
open PySem PySem.Spec PyProof.Rows
structure M1 (X : Cx) (o : Expr) (m : Str) (apos : Pos) (e : Expr) (cpos : Pos) : Prop where
  base : attributeBase o m X.env (eval o X.env) = eval o X.env
  few : ((backTo cpos (starEach [e] X.env)).all (fun x => !x.1) && (backToKw cpos (keywordEach [] X.env)).all (fun x => x.1.isSome)
    && decide (([e] : List Expr).length + ([] : List Keyword).length + (if ([] : List Keyword).isEmpty then 0 else 1) < 30)) = true
  line : (apos.endLine == cpos.line) = true
  trees : backTo cpos (starEach [e] X.env) = [(false, eval e X.env)]
structure M2 (X : Cx) (o : Expr) (m : Str) (apos : Pos) (e f : Expr) (cpos : Pos) : Prop where
  base : attributeBase o m X.env (eval o X.env) = eval o X.env
  few : ((backTo cpos (starEach [e, f] X.env)).all (fun x => !x.1) && (backToKw cpos (keywordEach [] X.env)).all (fun x => x.1.isSome)
    && decide (([e, f] : List Expr).length + ([] : List Keyword).length + (if ([] : List Keyword).isEmpty then 0 else 1) < 30)) = true
  line : (apos.endLine == cpos.line) = true
  trees : backTo cpos (starEach [e, f] X.env) = [(false, eval e X.env), (false, eval f X.env)]
end L2
namespace L2
open PySem PySem.Spec PyProof.Rows
end L2
namespace L2
open PySem PySem.Spec PyProof.Rows
section
variable {X : Cx} {K : Frag}
def V4 : List D → Option D
  | [.list ds] => some (.tuple ds)
  | [.tuple ds] => some (.tuple ds)
  | _ => none
theorem AGA (hK : X.K = K) : Mt X K (.type "tuple") (fun xs H Q => ∃ p ys, xs = [.ref p] ∧ ((Bg K H p ys ∧ ∀ l, H l = none → Q (.ref l) (upd H l (.tup ys))) ∨ (Dt K H p ys ∧ Q (.ref p) H))) V4 := ⟨by subst hK; exact ABg, by
  intro O H vs ds d Q ok r hg q
  unfold V4 at hg
  split at hg
  · rename_i es
    cases hg
    obtain ⟨v, rfl, r1⟩ := rep1 r
    cases r1 with
    | lst h r' =>
      refine ⟨_, _, rfl, .inl ⟨Dj.seq h, fun l hl => ?_⟩⟩
      have nl : l ∉ O := fun z => by
        obtain ⟨o, e⟩ := ok l z
        rw [hl] at e
        cases e
      exact q _ _ (Ak.new hl) (.tup (Dt.of (by rw [Cj nl]; exact Dg)) (r'.mono (Ds (Ak.new hl))))
  · rename_i es
    cases hg
    obtain ⟨v, rfl, r1⟩ := rep1 r
    cases r1 with
    | tup h r' => exact ⟨_, _, rfl, .inr ⟨Dj.K3 h, q _ H (Ak.refl H) (.tup h r')⟩⟩
  · cases hg⟩
end
end L2
namespace S22
open PySem L2 LL
def pU : Ao := (Br (Gp (JR "int" (Aa 0)) (WM (JR "bool" (Aa 0)))))
def HQ : List D → Option D := BZ 1 1 pU
def W8 : Ao := (Br (Gp (JR "tuple" (Aa 0)) (Gp (Ae Bx (Ar CG (Ab (Aa 0) Ag)) (Ad (.int 2))) (Gp (Ar HQ (Ab (Ae Az (Aa 0) (Ad (.int 0))) Ag)) (Ar HQ (Ab (Ae Az (Aa 0) (Ad (.int 1))) Ag))))))
def KZ : List D → Option D := BZ 1 1 W8
def WD : Ao := (Br (T7 (Ar KZ (Ab (Aa 0) Ag)) (Gp (JR "tuple" (Aa 0)) (Ae Bx (Ar CG (Ab (Aa 0) Ag)) (Ad (.int 0))))))
def Jt : List D → Option D := BZ 1 1 WD
def ZC : Ao := (Br (Gp (JR "list" (Aa 0)) (Gp (Ae Bx (Ar CG (Ab (Aa 0) Ag)) (Aa 1)) (Ar KJ (Ab (BV (Ca (Dw (Aa 0)) (Cg 0) Cq (Ar Jt (Ab (Aa 0) Ag)) 1 [])) Ag)))))
def Py : List D → Option D := BZ 2 2 ZC
def Wn : Ao := (Br (Gp (Ar KZ (Ab (Aa 1) Ag)) (Gp (Hs HF HF (Ad (.int 0)) (Ae Az (Aa 1) (Ad (.int 0))) (Ad (.int 1))) (Hs HF HF (Ad (.int 0)) (Ae Az (Aa 1) (Ad (.int 1))) (Ae Az (Aa 0) (Ad (.int 0)))))))
def Qk : List D → Option D := BZ 2 2 Wn
def Xh : Ao := (Aw (Cd (GF (Ez (BP (JR "list" (Aa 1)))) (BP (Ae Cm (Ar CG (Ab (Aa 1) Ag)) (Ad (.int 3)))))
      (Br (Ad (.bool false))) DK)
    (Aw (Bb 2 (vS (Ar J3 (Ab (Aa 0) (Ab (Ae Az (Aa 0) (Ad (.int 0))) Ag)))))
    (Aw (Cd (GF (Ez (BP (Ar Py (Ab (Ae Az (Aa 1) (Ad (.int 0))) (Ab (Aa 2) Ag))))) (Ez (BP (Ar Py (Ab (Ae Az (Aa 1) (Ad (.int 1))) (Ab (Aa 2) Ag))))))
      (Br (Ad (.bool false))) DK)
    (Aw (Bb 3 (vS (Ae Az (Aa 1) (Ad (.int 2)))))
    (Br (Gp (JR "list" (Aa 3)) (Gp (Ae Bx (Ar CG (Ab (Aa 3) Ag)) (Ad (.int 1))) (Ar Qk (Ab (Aa 0) (Ab (Ae Az (Aa 3) (Ad (.int 0))) Ag))))))))))
def Jx : List D → Option D := BZ 2 4 Xh
def Wq : Ao := (Aw (Cd (Ez (BP (Ar Jx (Ab (Aa 0) (Ab (Aa 1) Ag)))))
      (Br (Ad (.bool false))) DK)
    (Aw (Bb 2 (vS (BV (Bm IV (Ab (Aa 0) (Ab (Aa 1) Ag))))))
    (Br (Gp (Ar Qz (Ab (Aa 2) Ag)) (Ae HF (Ar CG (Ab (BV (Bm MN (Ab (Aa 2) Ag))) Ag)) (Ar MK (Ab (Aa 0) (Ab (Ar Im (Ab (Aa 1) Ag)) Ag))))))))
def Ey : List D → Option D := BZ 2 3 Wq
end S22
namespace S22
open PySem L2 LL
def Dd : D → Bool
  | .int _ => true
  | _ => false
def Rg : D → Bool
  | .tuple [x, y] => Dd x && Dd y
  | _ => false
def isPlace : D → Bool
  | .tuple [] => true
  | d => Rg d
def GK (n : Nat) : D → Bool
  | .list ds => decide (ds.length = n) && ds.all isPlace
  | _ => false
def isSign (t : Nat) : D → Bool
  | .tuple [.int x, .int y] => (decide (0 ≤ x) && decide (x ≤ 1)) && (decide (0 ≤ y) && decide (y ≤ (t : Int)))
  | _ => false
def Q6 (t : Nat) : D → Bool
  | .list [x] => isSign t x
  | _ => false
def AKP (n t : Nat) : D → Bool
  | .list [a, b, s] => (GK n a && GK n b) && Q6 t s
  | _ => false
theorem bF (d : D) : HQ [d] = some (.bool (Dd d)) := by
  cases d with
  | dict kvs => cases kvs <;> rfl
  | _ => rfl
def Fits : D → Prop
  | .list ds => ds.length < 16777216
  | .tuple ds => ds.length < 16777216
  | _ => True
theorem len_T (ds : List D) (h : ds.length < 16777216) : CG [.tuple ds] = some (.int (ds.length : Int)) := by
  rfl
theorem sW (d : D) (h : Fits d) : KZ [d] = some (.bool (Rg d)) := by
  cases d with
  | tuple ds =>
    have hl := len_T ds h
    match ds, hl with
    | [x, y], hl =>
      have h1 := bF x
      have h2 := bF y
      refine Cr (o := .rt (.bool _)) rfl ?_ rfl
      unfold W8
      show _ = some (Out.rt (.bool (Dd x && Dd y)))
      have hl2 : CG [.tuple [x, y]] = some (.int 2) := rfl
      clear h hl
      cases hx : Dd x <;> cases hy : Dd y <;> rw [hx] at h1 <;> rw [hy] at h2 <;> walk_at "pu"
    | [], hl => rfl
    | [x], hl => rfl
    | x :: y :: z :: r, hl =>
      refine Cr (o := .rt (.bool false)) rfl ?_ rfl
      unfold W8
      have h2 : ¬ (((x :: y :: z :: r).length : Int) = 2) := by simp; omega
      generalize ((x :: y :: z :: r).length : Int) = L at *
      clear h
      walk_at "pu"
  | dict kvs => cases kvs <;> rfl
  | _ => rfl
theorem AAy (d : D) (h : Fits d) : Jt [d] = some (.bool (isPlace d)) := by
  have hp := sW d h
  cases d with
  | tuple ds =>
    have hl := len_T ds h
    cases ds with
    | nil => rfl
    | cons x r =>
      have e : isPlace (.tuple (x :: r)) = Rg (.tuple (x :: r)) := rfl
      rw [e]
      have h2 : ¬ (((x :: r).length : Int) = 0) := by simp; omega
      refine Cr (o := .rt (.bool _)) rfl ?_ rfl
      unfold WD
      generalize ((x :: r).length : Int) = L at *
      have ht : Ip "tuple" "tuple" = true := rfl
      clear h e
      cases hb : Rg (.tuple (x :: r)) <;> rw [hb] at hp <;> walk_at "pu"
  | list ds =>
    refine Cr (o := .rt (.bool false)) rfl ?_ rfl
    unfold WD
    have hp' : KZ [.list ds] = some (.bool false) := hp
    have ht : Ip "list" "tuple" = false := rfl
    clear hp h
    walk_at "pu"
  | dict kvs => cases kvs <;> rfl
  | _ => rfl
theorem rP (d : D) (n : Nat) (h : Fits d) (hi : ∀ ds, d = .list ds → ∀ x ∈ ds, Fits x) : Py [d, .int (n : Int)] = some (.bool (GK n d)) := by
  cases d with
  | list ds =>
    have hl : ds.length < 16777216 := h
    have Js : Ca (Dw (Aa 0)) (Cg 0) Cq (Ar Jt (Ab (Aa 0) Ag)) 1 [] [some (.list ds), some (.int (n : Int))] = some ((ds.map isPlace).map PyData.bool) := by
      refine (Hb (items := ds) rfl hl).trans ?_
      have := Oj (bd := Cg 0) (fe := Ar Jt (Ab (Aa 0) Ag)) (ρ0 := [none]) (fun x : D => x) (fun x => PyData.bool (isPlace x)) ds fun x hx => ⟨_, rfl, by
        have := AAy x (hi ds rfl x hx)
        show Option.bind (some [x]) Jt = _
        exact this⟩
      rw [List.map_id'] at this
      rw [List.map_map]
      exact this
    have hall : KJ [.list ((ds.map isPlace).map PyData.bool)] = some (.bool (ds.all isPlace)) := by
      show (PL ((ds.map isPlace).map PyData.bool)).bind _ = _
      rw [m6]
      show some (PyData.bool ((ds.map isPlace).all id)) = _
      congr 2
      rw [List.all_map]
      rfl
    have hlen : CG [.list ds] = some (.int (ds.length : Int)) := rfl
    refine Cr (o := .rt (.bool (decide (ds.length = n) && ds.all isPlace))) rfl ?_ rfl
    unfold ZC
    generalize Ca (Dw (Aa 0)) (Cg 0) Cq (Ar Jt (Ab (Aa 0) Ag)) 1 [] = PC at *
    generalize (ds.map isPlace).map PyData.bool = BB at *
    by_cases e : ds.length = n
    · have e' : (ds.length : Int) = (n : Int) := by omega
      rw [decide_eq_true e, Bool.true_and]
      generalize (ds.length : Int) = L at *
      clear h hi hl e
      walk_at "pu"
    · have e' : ¬ (ds.length : Int) = (n : Int) := by omega
      rw [decide_eq_false e, Bool.false_and]
      generalize (ds.length : Int) = L at *
      clear h hi hl e hall Js
      walk_at "pu"
  | dict kvs => cases kvs <;> rfl
  | _ => rfl
end S22
namespace S22
open PySem L2 LL
abbrev Aq (t w st : Nat) : D := .tuple [.int (t : Int), .int (w : Int), .int (st : Int)]
theorem sign_eq (t w st : Nat) (d : D) (h : Fits d) : Qk [Aq t w st, d] = some (.bool (isSign t d)) := by
  have hp := sW d h
  cases hb : Rg d with
  | false =>
    rw [hb] at hp
    have e : isSign t d = false := by
      unfold isSign
      split
      · cases hb
      · rfl
    rw [e]
    refine Cr (o := .rt (.bool false)) rfl ?_ rfl
    unfold Wn
    clear h e hb
    walk_at "pu"
  | true =>
    rw [hb] at hp
    obtain ⟨x, y, rfl⟩ : ∃ x y : Int, d = .tuple [.int x, .int y] := by
      unfold Rg at hb
      split at hb
      · rename_i x y
        obtain ⟨h1, h2⟩ := Bool.and_eq_true_iff.mp hb
        unfold Dd at h1 h2
        split at h1
        · split at h2
          · exact ⟨_, _, rfl⟩
          · cases h2
        · cases h1
      · cases hb
    show _ = some (PyData.bool ((decide (0 ≤ x) && decide (x ≤ 1)) && (decide (0 ≤ y) && decide (y ≤ (t : Int)))))
    refine Cr (o := .rt (.bool _)) rfl ?_ rfl
    unfold Wn
    clear h hb
    by_cases c1 : 0 ≤ x <;> by_cases c2 : x ≤ 1 <;> by_cases c3 : 0 ≤ y <;> by_cases c4 : y ≤ (t : Int) <;> walk_at "pu"
def Fq : D → Prop
  | .list ds => ds.length < 16777216 ∧ ∀ x ∈ ds, Fits x
  | .tuple ds => ds.length < 16777216
  | _ => True
theorem Fq.fits {d : D} (h : Fq d) : Fits d := by
  cases d <;> first | exact h.1 | exact h | trivial
theorem Fq.items {d : D} (h : Fq d) : ∀ ds, d = .list ds → ∀ x ∈ ds, Fits x := by
  rintro ds rfl
  exact h.2
theorem nD {t w st : Nat} (t4 : t ≤ 4) {a b s : D} (ha : Fq a) (hb : Fq b) (hs : Fq s) : Jx [Aq t w st, .list [a, b, s]] = some (.bool (AKP (2 ^ t * w) t (.list [a, b, s]))) := by
  have hp := places_eq (t := (t : Int)) (w := w) (st := st) (h := t) t4
  have h1 := rP a (2 ^ t * w) ha.fits ha.items
  have h2 := rP b (2 ^ t * w) hb.fits hb.items
  show _ = some (PyData.bool ((GK (2 ^ t * w) a && GK (2 ^ t * w) b) && Q6 t s))
  generalize 2 ^ t * w = N at *
  have hl3 : CG [.list [a, b, s]] = some (.int 3) := rfl
  have i0 : Az (.list [a, b, s]) (.int 0) = some a := rfl
  have i1 : Az (.list [a, b, s]) (.int 1) = some b := rfl
  have i2 : Az (.list [a, b, s]) (.int 2) = some s := rfl
  have ty : Gv (.list [a, b, s]) = "list" := rfl
  refine Cr (o := .rt (.bool _)) rfl ?_ rfl
  unfold Xh
  show Aw _ _ [.sh (Aq t w st), .sh (.list [a, b, s]), .no, .no] = _
  generalize PyData.list [a, b, s] = L at *
  refine BJ (ρ' := [.sh (Aq t w st), .sh L, .no, .no]) (by clear hp h1 h2 i0 i1 i2 ha hb hs; walk_at "pu") ?_
  refine BJ (ρ' := [.sh (Aq t w st), .sh L, .sh (.int (N : Int)), .no]) (by clear h1 h2 i0 i1 i2 ha hb hs hl3 ty; walk_at "pu") ?_
  clear hp
  cases qa : GK N a with
  | false =>
    rw [qa] at h1
    refine Ja ?_
    clear h2 i1 i2 ha hb hs hl3 ty
    walk_at "pu"
  | true =>
    rw [qa] at h1
    cases qb : GK N b with
    | false =>
      rw [qb] at h2
      refine Ja ?_
      clear i2 ha hb hs hl3 ty
      walk_at "pu"
    | true =>
      rw [qb] at h2
      refine BJ (ρ' := [.sh (Aq t w st), .sh L, .sh (.int (N : Int)), .no]) (by clear i2 ha hb hs hl3 ty; walk_at "pu") ?_
      refine BJ (ρ' := [.sh (Aq t w st), .sh L, .sh (.int (N : Int)), .sh s]) (by clear h1 h2 i0 i1 ha hb hs hl3 ty; walk_at "pu") ?_
      clear h1 h2 i0 i1 i2 hl3 ty ha hb
      show _ = some (Out.rt (.bool (Q6 t s)))
      cases s with
      | list ds =>
        match ds, hs with
        | [x], hs =>
          have hx := sign_eq t w st x (hs.2 x (.head _))
          have e1 : CG [.list [x]] = some (.int 1) := rfl
          have e2 : Az (.list [x]) (.int 0) = some x := rfl
          have e3 : Gv (.list [x]) = "list" := rfl
          show _ = some (Out.rt (.bool (isSign t x)))
          generalize PyData.list [x] = S at *
          clear hs
          walk_at "pu"
        | [], hs => rfl
        | x :: y :: r, hs =>
          have e1 : CG [.list (x :: y :: r)] = some (.int ((x :: y :: r).length : Int)) := rfl
          have e2 : ¬ ((x :: y :: r).length : Int) = 1 := by simp; omega
          have e3 : Gv (.list (x :: y :: r)) = "list" := rfl
          show _ = some (Out.rt (.bool false))
          generalize PyData.list (x :: y :: r) = S at *
          generalize ((x :: y :: r).length : Int) = M at *
          clear hs
          walk_at "pu"
      | dict kvs => cases kvs <;> rfl
      | _ => rfl
theorem YG {t w st : Nat} {d : D} (h : Fits d) (ho : ∀ ds, d = .list ds → ds.length ≠ 3) : Jx [Aq t w st, d] = some (.bool false) := by
  refine Cr (o := .rt (.bool false)) rfl ?_ rfl
  unfold Xh
  refine Ja ?_
  show Cd _ _ _ [.sh (Aq t w st), .sh d, .no, .no] = _
  cases d with
  | list ds =>
    have e1 : CG [.list ds] = some (.int (ds.length : Int)) := rfl
    have e2 : ¬ ((ds.length : Int) = 3) := by have := ho ds rfl; omega
    have e3 : Gv (.list ds) = "list" := rfl
    generalize PyData.list ds = S at *
    generalize (ds.length : Int) = M at *
    clear h ho
    walk_at "pu"
  | dict kvs => cases kvs <;> rfl
  | _ => rfl
theorem Lf {t w st : Nat} {d : D} (h : Jx [Aq t w st, d] = some (.bool false)) : Ey [Aq t w st, d] = some (.bool false) := by
  refine Cr (o := .rt (.bool false)) rfl ?_ rfl
  unfold Wq
  refine Ja ?_
  show Cd _ _ _ [.sh (Aq t w st), .sh d, .no] = _
  generalize Aq t w st = B at *
  walk_at "pu"
theorem AGK (x : Thing) : isPlace (encD x) = true := by
  cases x <;> rfl
theorem xY (x : Thing) : Fits (encD x) := by
  cases x with
  | none => show ([] : List D).length < 16777216; decide
  | some p => show ([.int p.1, .int p.2] : List D).length < 16777216; simp
theorem ADf (ts : List Thing) : (ts.map encD).all isPlace = true := List.all_eq_true.mpr fun d hd => by
  obtain ⟨x, _, rfl⟩ := List.mem_map.mp hd
  exact AGK x
theorem Zy {ts : List Thing} {n : Nat} : GK n (encL ts) = decide (ts.length = n) := by
  show (decide ((ts.map encD).length = n) && (ts.map encD).all isPlace) = _
  rw [ADf, Bool.and_true, List.length_map]
theorem Lz {ts : List Thing} (h : ts.length < 16777216) : Fq (encL ts) := ⟨by rw [List.length_map]; exact h, fun d hd => by
  obtain ⟨x, _, rfl⟩ := List.mem_map.mp hd
  exact xY x⟩
theorem iD {t w st n a h : Nat} {k : Dk} {A B : List Thing} (bd : Bd (t : Int) (w : Int) (st : Int)) (d : Dy k (2 ^ t * w) a h A B) (ht : h ≤ t) :
    Ey [Aq t w st, Bh k] = some (.bool (decide (Ef (Ci (CV w k a h))) && decide ((((Ci (CV w k a h)).filter Eg).length : Int) ≤ 2 ^ h * ((w : Int) - (h : Int) * (st : Int))))) := by
  have t4 : t ≤ 4 := by have := bd.t4; omega
  have w20 : w ≤ 20 := by have := bd.hi; omega
  have hp : 2 ^ t ≤ 16 := by
    have : 2 ^ t ≤ 2 ^ 4 := Nat.pow_le_pow_right (by decide) t4
    omega
  have hN : 2 ^ t * w ≤ 320 := by
    have := Nat.mul_le_mul hp w20
    omega
  have s20 : st ≤ 20 := by
    have h1 := bd.lo
    have h2 := bd.t0
    have h3 : (st : Int) * 2 ≤ (st : Int) * ((t : Int) + 2) := Int.mul_le_mul_of_nonneg_left (by omega) (by omega)
    omega
  have ek : Bh k = .list [encL A, encL B, encL [some ((a : Int), (h : Int))]] := by rw [d.eq]; rfl
  have hf : Jx [Aq t w st, Bh k] = some (.bool true) := by
    rw [ek, nD t4 (Lz (by rw [d.lA]; omega)) (Lz (by rw [d.lB]; omega)) (Lz (by simp))]
    show some (PyData.bool ((GK (2 ^ t * w) (encL A) && GK (2 ^ t * w) (encL B)) && isSign t (encD (some ((a : Int), (h : Int)))))) = _
    rw [Zy, Zy, decide_eq_true d.lA, decide_eq_true d.lB]
    have a2 := d.a2
    show some (PyData.bool ((true && true) && ((decide (0 ≤ (a : Int)) && decide ((a : Int) ≤ 1)) && (decide (0 ≤ (h : Int)) && decide ((h : Int) ≤ (t : Int)))))) = _
    rw [decide_eq_true (by omega), decide_eq_true (by omega), decide_eq_true (by omega), decide_eq_true (by omega)]
    rfl
  have hs := bV (w := w) (st := st) (t := (t : Int)) d (by omega : h ≤ 4)
  have hlen : (CV w k a h).length < 16777216 := by
    unfold CV
    have := d.ar.2
    rw [List.length_take, this]
    omega
  have hso := z6 (CV w k a h) hlen
  have hro := tZ (CV w k a h) hlen
  have hh := aF d
  have hc := lF (t := (t : Int)) (w := w) (st := st) (h := h) (by omega) s20
  generalize CV w k a h = S at *
  have hlr : CG [.list (((Ci S).filter Eg).map encD)] = some (.int (((Ci S).filter Eg).length : Int)) := by
    show some (PyData.int ((((Ci S).filter Eg).map encD).length : Int)) = _
    rw [List.length_map]
  generalize Bh k = E at *
  refine Cr (o := .rt (.bool _)) rfl ?_ rfl
  unfold Wq
  show Aw _ _ [.sh (Aq t w st), .sh E, .no] = _
  have e1 : ∀ ds : List D, La (.list ds) = some ds := fun ds => rfl
  refine BJ (ρ' := [.sh (Aq t w st), .sh E, .no]) (by clear hs hso hro hh hc hlr ek; walk_at "pu") ?_
  refine BJ (ρ' := [.sh (Aq t w st), .sh E, .sh (.list (S.map encD))]) (by clear hf hso hro hh hc hlr ek; walk_at "pu") ?_
  clear hf hs ek
  generalize (2 : Int) ^ h * ((w : Int) - (h : Int) * (st : Int)) = C at *
  generalize S.map encD = SD at *
  generalize ((Ci S).filter Eg).map encD = RD at *
  generalize (((Ci S).filter Eg).length : Int) = M at *
  cases q1 : decide (Ef (Ci S)) with
  | false =>
    rw [q1] at hso
    clear hro hh hc hlr q1
    walk_at "pu"
  | true =>
    rw [q1] at hso
    clear q1
    walk_at "pu"
end S22
namespace S22
open PySem L2 LL
theorem AHv {k : Dk} {n a h : Nat} {A B : List Thing} (d : Dy k n a h A B) {fi : BW} {ρ : Bc} (e : fi ρ = some [encL A, encL B, encL [some ((a : Int), (h : Int))]]) :
    Ca fi (Cg 0) Cq (BV (Bm Fy (Ab (Aa 0) Ag))) 1 [] ρ = some [encL A, encL B, encL [some ((a : Int), (h : Int))]] := by
  have := ANI (fi := fi) (ρ := ρ) (dss := FQ k) (by rw [e, d.eq]; rfl) (by rw [d.eq]; show 3 < 16777216; decide)
  rw [this, d.eq]
  rfl
theorem ACu {k : Dk} {n a h : Nat} {A B : List Thing} (d : Dy k n a h A B) : Bh k = .list [encL A, encL B, encL [some ((a : Int), (h : Int))]] := by
  rw [d.eq]; rfl
theorem Ph {t w st : Nat} (t4 : t ≤ 4) {a b s : D} (ha : Fq a) (hb : Fq b) (hs : Fq s) (h : GK (2 ^ t * w) a = false ∨ GK (2 ^ t * w) b = false ∨ Q6 t s = false) : Jx [Aq t w st, .list [a, b, s]] = some (.bool false) := by
  rw [nD t4 ha hb hs]
  show some (PyData.bool ((GK (2 ^ t * w) a && GK (2 ^ t * w) b) && Q6 t s)) = _
  rcases h with h | h | h
  · rw [h]; rfl
  · rw [h, Bool.and_false]; rfl
  · rw [h, Bool.and_false]
theorem AHh (ts : List Thing) (h : ts.length < 16777215) : Fq (.list (ts.map encD ++ [.tuple []])) := by
  have e : ts.map encD ++ [PyData.tuple []] = (ts ++ [none]).map encD := by rw [List.map_append]; rfl
  rw [e]
  exact Lz (by rw [List.length_append]; simp; omega)
end S22
namespace S22
open PySem L2 LL
theorem lE {ts : List Thing} {n j : Nat} {o : D} (hj : j < ts.length) (hl : ts.length < 16777216) (f : Fits o) (h : isPlace o = false) : Fq (.list ((ts.map encD).set j o)) ∧ GK n (.list ((ts.map encD).set j o)) = false := by
  refine ⟨⟨by rw [List.length_set, List.length_map]; exact hl, fun x hx => ?_⟩, ?_⟩
  · rcases List.mem_or_eq_of_mem_set hx with hx | rfl
    · obtain ⟨y, _, rfl⟩ := List.mem_map.mp hx
      exact xY y
    · exact f
  · show (decide (((ts.map encD).set j o).length = n) && ((ts.map encD).set j o).all isPlace) = false
    have : ((ts.map encD).set j o).all isPlace = false := by
      rw [List.all_eq_false]
      exact ⟨o, (List.mem_set (l := ts.map encD) (i := j) (by rw [List.length_map]; exact hj) o), by rw [h]; decide⟩
    rw [this, Bool.and_false]
end S22
namespace S22
open PySem L2 LL
abbrev Pq := Int × Int
def Up (L : List Pq) : Prop := (L.map (·.1)).Pairwise (· < ·)
theorem Wl {ts : List Thing} : Ef ts ↔ Up (things ts) := by
  unfold Ef Up
  rw [dG]
theorem eN : ∀ (ts : List Thing) (i : Nat) (last : Thing) (p : Nat), Dr last i ts = some p → ∃ (A B : List Thing) (y : Pq), ts = A ++ some y :: B ∧ p = i + A.length ∧ (things (last :: A)).getLast? = some y
  | [], i, last, p, h => by cases h
  | none :: r, i, last, p, h => by
    obtain ⟨A, B, y, e1, e2, e3⟩ := eN r (i + 1) last p h
    refine ⟨none :: A, B, y, by rw [e1]; rfl, by rw [e2]; simp; omega, ?_⟩
    cases last <;> exact e3
  | some x :: r, i, last, p, h => by
    unfold Dr at h
    by_cases hx : some x = last
    · rw [if_pos hx] at h
      cases h
      refine ⟨[], r, x, rfl, rfl, ?_⟩
      rw [← hx]
      rfl
    · rw [if_neg hx] at h
      obtain ⟨A, B, y, e1, e2, e3⟩ := eN r (i + 1) (some x) p h
      refine ⟨some x :: A, B, y, by rw [e1]; rfl, by rw [e2]; simp; omega, ?_⟩
      cases last with
      | none => exact e3
      | some z =>
        show (z :: things (some x :: A)).getLast? = some y
        rw [List.getLast?_cons, e3]
        rfl
theorem gB (S : List Thing) : things (Ci S) = things S ∨ ∃ (U : List Pq) (y : Pq) (V : List Pq), things S = U ++ y :: y :: V ∧ things (Ci S) = U ++ y :: V := by
  unfold Ci
  cases h : Dr none 0 S with
  | none => exact .inl rfl
  | some p =>
    right
    obtain ⟨A, B, y, e1, e2, e3⟩ := eN S 0 none p h
    have hA : (things A).getLast? = some y := e3
    obtain ⟨U, hU⟩ : ∃ U, things A = U ++ [y] := by
      obtain ⟨ys, hy⟩ := List.getLast?_eq_some_iff.mp hA
      exact ⟨ys, hy⟩
    refine ⟨U, y, things B, ?_, ?_⟩
    · rw [e1, Yy, aK, hU]
      simp
    · show things (S.set p none) = _
      rw [e1, e2, Nat.zero_add, List.set_append_right _ _ (Nat.le_refl _), Nat.sub_self, List.set_cons_zero, Yy, aZ, hU]
      simp
theorem ANK {S : List Thing} {x : Pq} (h : x ∈ things S) : x ∈ things (Ci S) := by
  rcases gB S with e | ⟨U, y, V, e1, e2⟩
  · rw [e]; exact h
  · rw [e1] at h
    rw [e2]
    simp only [List.mem_append, List.mem_cons] at h ⊢
    rcases h with h | h | h | h
    · exact .inl h
    · exact .inr (.inl h)
    · exact .inr (.inl h)
    · exact .inr (.inr h)
theorem AGr (S : List Thing) : (things (Ci S)).head? = (things S).head? := by
  rcases gB S with e | ⟨U, y, V, e1, e2⟩
  · rw [e]
  · rw [e1, e2]
    cases U <;> rfl
theorem ALZ {S : List Thing} {x z : Pq} (hxz : x ≠ z) : (things S).count x = (things (Ci S)).count x ∨ (things S).count z = (things (Ci S)).count z := by
  rcases gB S with e | ⟨U, y, V, e1, e2⟩
  · left; rw [e]
  · rw [e1, e2]
    simp only [List.count_append, List.count_cons]
    by_cases hy : y = x
    · right
      have : ¬ (y = z) := fun q => hxz (hy.symm.trans q)
      simp [this]
    · left
      simp [hy]
theorem Up.count {L : List Pq} (h : Up L) (x : Pq) : L.count x ≤ 1 := by
  induction L with
  | nil => simp
  | cons y L ih =>
    have h' := List.pairwise_cons.mp (show (y.1 :: L.map (·.1)).Pairwise (· < ·) from h)
    rw [List.count_cons]
    by_cases hy : y = x
    · subst hy
      have : y ∉ L := fun hm => by
        have := h'.1 y.1 (List.mem_map.mpr ⟨y, hm, rfl⟩)
        omega
      rw [List.count_eq_zero_of_not_mem this]
      simp
    · have := ih h'.2
      simp [hy]
      exact this
theorem Up.head {L : List Pq} {f z : Pq} (h : Up L) (hf : L.head? = some f) (hz : z ∈ L) : f.1 ≤ z.1 := by
  cases L with
  | nil => cases hf
  | cons x L =>
    cases hf
    have h' := List.pairwise_cons.mp (show (f.1 :: L.map (·.1)).Pairwise (· < ·) from h)
    rcases List.mem_cons.mp hz with rfl | hz
    · omega
    · have := h'.1 z.1 (List.mem_map.mpr ⟨z, hz, rfl⟩)
      omega
theorem AGD {S : List Thing} {x z : Pq} (hx : 2 ≤ (things S).count x) (hz : 2 ≤ (things S).count z) (hne : x ≠ z) : ¬ Ef (Ci S) := fun r => by
  have r' := Wl.mp r
  have c1 := r'.count x
  have c2 := r'.count z
  rcases ALZ (S := S) hne with e | e <;> omega
theorem AGV {S : List Thing} {f z : Pq} (hf : (things S).head? = some f) (hz : z ∈ things S) (hk : z.1 < f.1) : ¬ Ef (Ci S) := fun r => by
  have := (Wl.mp r).head (f := f) (by rw [AGr]; exact hf) (ANK hz)
  omega
theorem yM {ts S : List Thing} (h : Ef ts) (tw : Qs ts S) : Ef (Ci S) ∧ things (Ci S) = things ts := by
  rcases tw.way with rfl | ⟨p, q, x, hp, hq, mid, rfl⟩
  · rw [Ww h]; exact ⟨h, rfl⟩
  · have lp := (List.getElem?_eq_some_iff.mp hp).1
    have lq := (List.getElem?_eq_some_iff.mp hq).1
    have hpq : p ≠ q := fun z => by rw [z, hq] at hp; cases hp
    have gp : (ts.set q (some x))[p]? = some (some x) := by rw [List.getElem?_set_ne (Ne.symm hpq)]; exact hp
    have gq : (ts.set q (some x))[q]? = some (some x) := List.getElem?_set_self lq
    have back : (ts.set q (some x)).set q none = ts := by
      rw [List.set_set]
      apply List.ext_getElem?
      intro i
      by_cases hi : q = i
      · subst hi; rw [List.getElem?_set_self lq, hq]
      · rw [List.getElem?_set_ne hi]
    rcases Nat.lt_or_gt_of_ne hpq with hlt | hgt
    · have := mX (S := ts.set q (some x)) gp gq hlt (fun i h1 h2 => by rw [List.getElem?_set_ne (by omega)]; exact mid i (.inl ⟨h1, h2⟩)) (by rw [back]; exact h)
      rw [this.1, back]
      exact ⟨h, rfl⟩
    · -- the new one ahead
      have sp := aQ (S := ts) hq hp hgt (fun i h1 h2 => mid i (.inr ⟨h1, h2⟩))
      have tn : ∀ n, things (List.replicate n none) = [] := fun n => by
        induction n with
        | zero => rfl
        | succ n ih => rw [List.replicate_succ, aZ, ih]
      generalize hT1 : ts.take q = T1 at sp
      generalize hT2 : ts.drop (p + 1) = T2 at sp
      have l1 : T1.length = q := by rw [← hT1, List.length_take]; omega
      generalize hn : p - q - 1 = n at sp
      have eS : ts.set q (some x) = (T1 ++ some x :: List.replicate n none) ++ some x :: T2 := by
        rw [sp, List.set_append_right _ _ (by omega), l1, Nat.sub_self, List.set_cons_zero]
        simp
      have lS : (T1 ++ some x :: List.replicate n none).length = p := by
        rw [List.length_append, List.length_cons, List.length_replicate]
        omega
      have eB : (ts.set q (some x)).set p none = (T1 ++ some x :: List.replicate n none) ++ none :: T2 := by
        rw [eS, List.set_append_right _ _ (by omega), lS, Nat.sub_self, List.set_cons_zero]
      have tB : things ((ts.set q (some x)).set p none) = things ts := by
        rw [eB, sp]
        simp only [Yy, aK, aZ, tn, List.append_nil, List.nil_append, List.append_assoc, List.cons_append]
      have rB : Ef ((ts.set q (some x)).set p none) := Wl.mpr (by rw [tB]; exact Wl.mp h)
      have := mX (S := ts.set q (some x)) gq gp hgt (fun i h1 h2 => by rw [List.getElem?_set_ne (by omega)]; exact mid i (.inr ⟨h1, h2⟩)) rB
      rw [this.1, tB]
      exact ⟨rB, rfl⟩
end S22
namespace S22
open PySem L2 LL
theorem yQ {t w st : Nat} {h : Nat} (h4 : h ≤ 4) : Jc [.tuple [.int (t : Int), .int (w : Int), .int (st : Int)], .int (h : Int)] = some (.int (tw (h : Int) * ((w : Int) - (h : Int) * (st : Int)))) := by
  have Hv := Xm (h := (h : Int)) (by omega) (by omega)
  have hTs : -18446744073709551616 < tw (h : Int) ∧ tw (h : Int) < 18446744073709551616 := by
    rcases Yb (h := (h : Int)) (by omega) (by omega) with e | e | e | e | e <;> omega
  have hhs : -18446744073709551616 < (h : Int) ∧ (h : Int) < 18446744073709551616 := by omega
  generalize tw (h : Int) = T at *
  refine Cr (o := .rt (.int (T * ((w : Int) - (h : Int) * (st : Int))))) rfl ?_ rfl
  unfold aV
  walk_at "pu"
theorem room {t w st h : Nat} (bd : Bd (t : Int) (w : Int) (st : Int)) (ht : h ≤ t) : 2 ≤ (w : Int) - (h : Int) * (st : Int) ∧ (w : Int) - (h : Int) * (st : Int) ≤ w ∧ (1 ≤ h → (w : Int) - (h : Int) * (st : Int) ≤ (w : Int) - 1) ∧ (w ≤ 2 → t = 0) := by
  have lo := bd.lo
  have s1 := bd.s1
  have e : (st : Int) * ((t : Int) + 2) = (t : Int) * (st : Int) + 2 * (st : Int) := by rw [Int.mul_add, Int.mul_comm (st : Int) (t : Int), Int.mul_comm (st : Int) 2]
  have h1 : (h : Int) * (st : Int) ≤ (t : Int) * (st : Int) := Int.mul_le_mul_of_nonneg_right (by omega) (by omega)
  have h2 : 0 ≤ (h : Int) * (st : Int) := Int.mul_nonneg (by omega) (by omega)
  refine ⟨by omega, by omega, fun hh => ?_, fun hw => ?_⟩
  · have h3 : 1 * 1 ≤ (h : Int) * (st : Int) := Int.mul_le_mul (by omega) (by omega) (by omega) (by omega)
    omega
  · have h4 : (t : Int) * 1 ≤ (t : Int) * (st : Int) := Int.mul_le_mul_of_nonneg_left (by omega) (by omega)
    omega
structure AOk (X R : List Pq) : Prop where
  len : R.length ≤ X.length + 2
  bad : ∀ S : List Thing, things S = R → ¬ Ef (Ci S)
end S22
namespace S22
open PySem L2 LL
theorem oM (ts : List Thing) : (things ts).length = (keysOf ts).length := by rw [dG, List.length_map]
theorem vZ (ts : List Thing) : (ts.filter Eg).length = (things ts).length := by
  have := congrArg List.length (Wm ts)
  rw [List.length_map, List.length_map] at this
  exact this
end S22
namespace S22
open PySem L2 LL
theorem AJc {t w st a h : Nat} {k : Dk} {A B ts S : List Thing} {q : Int} (bd : Bd (t : Int) (w : Int) (st : Int)) (d : Dy k (2 ^ t * w) a h A B) (ht : h ≤ t) (hs : CV w k a h = S) (r : Ef ts) (tw : Qs ts S) (hq : ((keysOf ts).length : Int) ≤ 2 ^ h * ((w : Int) - (h : Int) * (st : Int))) :
    Ey [Aq t w st, Bh k] = some (.bool true) := by
  obtain ⟨r1, r2⟩ := yM r tw
  rw [iD (n := 0) bd d ht, hs, decide_eq_true r1, decide_eq_true (by rw [vZ, r2, oM]; exact hq)]
  rfl
end S22
namespace L2
open PySem PySem.Spec PyProof.Rows
def HS : List Value := [.type "ValueError", .type "Exception", .type "BaseException", .type "object"]
theorem wW {K : Frag} {h : Heap} {C : Addr} {bmB : List Value} {newId : String} (X : K.In h) (q : excIn K C bmB newId = true) : ∃ bm N nm qn bs hdct sn sub ab col dd k0 k1 k2 k3 k5 mN,
    h.get? C = some (excClassObj nm qn C N bs bm hdct sn sub ab col dd k0 k1 k2 k3 k5 newId) ∧ h.Ns N mN ∧ mN "__init__" = none ∧ OwnTail h bmB bm := by
  unfold excIn at q
  split at q
  · rename_i dd cd sl ho
    split at q
    · rename_i C' bm k0 k1 k2 k3 n k5 hm hs
      simp only [Bool.and_eq_true, beq_iff_eq, Bool.not_eq_true'] at q
      obtain ⟨⟨⟨⟨⟨rfl, rfl⟩, hdel⟩, ht⟩, hok⟩, hni⟩ := q
      obtain ⟨nm, bs, mro, ns, qn, hd, sn, sub, ab, col, del⟩ := cd
      dsimp only at hm hdel hok hni
      subst hm hdel
      have hsl : sl = #[k0, k1, k2, k3, some (.builtin n), k5] := by
        obtain ⟨l⟩ := sl
        simp only at hs
        rw [hs]
      subst hsl
      exact ⟨bm, ns, nm, qn, bs, hd, sn, sub, ab, col, dd, k0, k1, k2, k3, k5, _, X _ _ ho, .of_isNs (PySem.W.isNs_of_in X hok), PySem.W.nsMap_none_of_in X hok hni, PySem.W.tail_of_in X ht⟩
    · cases q
  · cases q
section
variable {X : Cx} {x : Str} {C : Addr} {e₀ : Expr} {rest : List Expr} {t : TA} {np cpos pos : Pos}
theorem AMX {XR : Hp → Prop} (hh : X.A.handled = none) (hg : Gl X x) (hm : X.mg x = some (.ref C)) (hq : excIn X.K C HS "ValueError.__new__" = true) (ha : PA X (e₀ :: rest) t) (hx : ∀ (pins : List (Addr × Obj)) (σ : St) (H : Hp) (s : Shared) (h' : Heap) (e : Addr) (vs : List Value), Inv X pins σ H s → Heap.MadeExcOf s.heap h' e (.ref C) vs → XR H → X.xe (.ref e) { s with heap := h' }) (he : starEach (e₀ :: rest) X.env = (false, eval e₀ X.env) :: starEach rest X.env := by rfl) (hplain : (backTo cpos (starEach rest X.env)).any (·.1) = false := by rfl) (hd : (x == ("__debug__" : Str)) = false := by decide) :
    PS X (.Raise (some (.Call (.Name x np) (e₀ :: rest) [] cpos)) none pos) (fun _ σ H => t σ H fun vs H1 => vs.length ≤ sizeLine ∧ XR H1) := by
  intro pins s σ H D I h
  obtain ⟨tl, N, nm, q, bs, hdct, sn, sub, ab, col, dd, k0, k1, k2, k3, k5, mN, hC, hN, hni, T⟩ := wW I.mod.kin hq
  refine wpAny_Raise_call_subU (C := C) (nm := nm) (q := q) (N := N) (bs := bs) (bm := tl) (hdct := hdct) (sn := sn) (sub := sub) (ab := ab) (col := col) (dd := dd) (k0 := k0) (k1 := k1) (k2 := k2) (k3 := k3) (k5 := k5)
    PySem.F.excBase_ValueError (by decide) PySem.F.excBase_ValueError (mN := mN) (T.hasType PySem.F.excBase_ValueError.hasBase) hh (by rw [he]; show (false || (backTo cpos (starEach rest X.env)).any (·.1)) = false; rw [hplain]; rfl) hni (Rp I hg hm ⟨rfl, ?_⟩ hd)
  have ha' := ha cpos pins s σ H _ I h
  rw [he] at ha' ⊢
  refine Calls.evalArgs_plain (wpAny_mono ha' (fun us s2 h2 => ?_) fun _ _ y => y)
  obtain ⟨vs, H1, I1, r1, hl, xr⟩ := h2
  have kp : ∀ b o, X.base.get? b = some o → s2.heap.get? b = some o := fun b o e => (I1.bs b o e).1
  exact ⟨rfl, by rw [← r1.length]; exact hl, kp _ _ hC, hN.keeps kp, T.keeps kp, fun h' e hmade => hx pins σ H1 s2 h' e us I1 hmade xr⟩
end
theorem Em.some {P : Program} {w : World} {H : Hp} {h : Heap} {a : Addr} {o : HO} (x : Em P w H h a o) : ∃ u, h.get? a = some u := by
  induction o with
  | lst xs => obtain ⟨_, _, _, _, e⟩ := x; exact ⟨_, e⟩
  | tup xs => obtain ⟨_, _, _, ob, e, _⟩ := x; exact ⟨_, e⟩
  | dK kvs => obtain ⟨_, _, _, _, ob, _, _, e, _⟩ := x; exact ⟨_, e⟩
  | dT kvs => obtain ⟨_, _, _, _, ob, _, _, e, _⟩ := x; exact ⟨_, e⟩
  | set S n => obtain ⟨ob, _, _, _, e, _⟩ := x; exact ⟨_, e⟩
  | ins C dx fs => obtain ⟨_, _, _, e, _⟩ := x; exact ⟨_, e⟩
  | own y => obtain ⟨ob, e⟩ := x; exact ⟨_, e⟩
  | xd fs => obtain ⟨_, ⟨od, _, _, e, _⟩, _⟩ := x; exact ⟨_, e⟩
  | rng lo hi => obtain ⟨_, _, _, e⟩ := x; exact ⟨_, e⟩
  | frz ob u ih => obtain ⟨e, q⟩ := x; exact ⟨_, e⟩
  | tbl ps => exact ⟨_, x⟩
  | met f y => exact ⟨_, x⟩
  | ext φ => obtain ⟨_, e, _⟩ := x; exact e
def Kv (P : Program) (w : World) : G8 := fun outer H s E e s' => ∃ (a t : Addr) (cls : Value) (B : Heap) (H' : Hp), e = .ref a ∧ s'.os = s.os ∧ AllBare s'.gens ∧ Heap.FlyingW B outer a cls (.ref t) s'.heap ∧
  (∀ h', B.StaysIn h' → s'.heap.UpToSlots h' → Un (EY outer) [] H H' s.heap h' ∧ Ec P w H' h') ∧ (∀ b o, s.heap.get? b = some o → b ∉ EY outer → H b = none → B.get? b = some o) ∧ s.heap.get? a = none ∧ H' a = none ∧ E cls none H'
section
variable {P : Program} {w : World} {K : Frag} {mg : Str → Option Value} {base : Heap} {N : List Str} {qual : Str} {scope : Scope} {f : Addr} {cd : Value} {A : Around} {outer : List Env} {s : Shared} {H : Hp} {E : XK}
theorem AGp {C : Addr} (pins : List (Addr × Obj)) (σ : St) (H1 : Hp) (s1 : Shared) (h' : Heap) (e : Addr) (vs : List Value) (I : Inv (Fo (Kv P w) P w K mg base N qual scope f cd A outer s H E) pins σ H1 s1) (hx : Heap.MadeExcOf s1.heap h' e (.ref C) vs) (hE : E (.ref C) none H1) : (Fo (Kv P w) P w K mg base N qual scope f cd A outer s H E).xe (.ref e) { s1 with heap := h' } := by
  show wpAny (model P w) (A.deeper (envOfC qual scope s.heap.objs.size f cd)) (leaving (envOfC qual scope s.heap.objs.size f cd) (.ref e)) _ _ _
  have hst : s1.heap.FunFrames base (envOfC qual scope s.heap.objs.size f cd :: outer) := I.stack
  have hin : ∀ env ∈ (envOfC qual scope s.heap.objs.size f cd :: outer), ∀ b, env.frame = some b → b ∈ EY (envOfC qual scope s.heap.objs.size f cd :: outer) := fun env he b hb => List.mem_filterMap.mpr ⟨env, he, hb⟩
  refine wpAny_leaves_madeW (base := PySem.W.hideAll s1.heap (EY (envOfC qual scope s.heap.objs.size f cd :: outer))) (L := s.heap.objs.size) I.ok.frames rfl (fun b o q => PySem.W.of_hideAll _ q) (PySem.W.funFrames_hide hst hin) hx fun h2 t x1 x2 x3 x4 => ?_
  have hup : s1.heap.UpToSlots h2 := (Heap.UpToSlots.of_keeps hx.keeps).trans x4
  have inB : ∀ b o, s1.heap.get? b = some o → b ∉ EY (envOfC qual scope s.heap.objs.size f cd :: outer) → (PySem.W.hideAll s1.heap (EY (envOfC qual scope s.heap.objs.size f cd :: outer))).get? b = some o := fun b o q n => PySem.W.hideAll_get _ q n
  have fr : ∀ b, b ∈ EY (envOfC qual scope s.heap.objs.size f cd :: outer) → b = s.heap.objs.size ∨ b ∈ EY outer := fun b hb => by
    obtain ⟨env, he, hf⟩ := List.mem_filterMap.mp hb
    rcases List.mem_cons.mp he with rfl | he
    · exact .inl (Option.some.inj hf).symm
    · exact .inr (List.mem_filterMap.mpr ⟨env, he, hf⟩)
  have fr' : ∀ b, b ∈ EY outer → b ∈ EY (envOfC qual scope s.heap.objs.size f cd :: outer) := fun b hb => by
    obtain ⟨env, he, hf⟩ := List.mem_filterMap.mp hb
    exact List.mem_filterMap.mpr ⟨env, .tail _ he, hf⟩
  have old : ∀ b o, s.heap.get? b = some o → b ∉ EY outer → b ∉ EY (envOfC qual scope s.heap.objs.size f cd :: outer) := fun b o q n hb => by
    rcases fr b hb with z | z
    · subst z; exact absurd (Heap.lt_size q) (Nat.lt_irrefl _)
    · exact n z
  have un : Un (EY outer) [] H H1 s.heap s1.heap := I.base
  have free : ∀ b ∈ EY (envOfC qual scope s.heap.objs.size f cd :: outer), H1 b = none := I.bQ
  have hok : Ec P w H1 s1.heap := I.hok
  refine ⟨e, t, .ref C, _, H1, rfl, I.os, I.bare, x1, fun h3 hB hu => ?_, fun b o q n hn => inB b o (un.keep b o q hn n (by simp)) (old b o q n), ?_, ?_, hE⟩
  case refine_2 =>
    cases q : s.heap.get? e with
    | none => rfl
    | some o =>
      obtain ⟨o', q1⟩ := un.there e o q (by simp)
      rw [hx.new] at q1
      cases q1
  case refine_3 =>
    cases q : H1 e with
    | none => rfl
    | some o =>
      obtain ⟨u, q1⟩ := (hok e o q).some
      rw [hx.new] at q1
      cases q1
  have hu' := hup.trans hu
  have frame : ∀ b o, s1.heap.get? b = some o → b ∈ EY (envOfC qual scope s.heap.objs.size f cd :: outer) → ∃ sl, h3.get? b = some { o with slots := sl } := fun b o q hb => by
    obtain ⟨_, o', ho', hd⟩ := hst.mem hb
    rw [q] at ho'
    cases ho'
    exact hu' b o q hd
  refine ⟨⟨fun b o q hn hb _ => hB b o (inB b o (un.keep b o q hn hb (by simp)) (old b o q hb)), fun b o q hn hb _ => ?_, fun b o q hn _ => un.free b o q hn (by simp), fun b o q _ => ?_, un.tups, un.frzs, un.tbls⟩, fun a o q => (hok a o q).Jk (fun b u hb qb => ?_) (fun _ q => q) fun _ _ q => q⟩
  · obtain ⟨sl, q1⟩ := un.slot b o q hn hb (by simp)
    obtain ⟨sl2, q2⟩ := frame b _ q1 (fr' b hb)
    exact ⟨sl2, q2⟩
  · obtain ⟨o', q1⟩ := un.there b o q (by simp)
    by_cases hb : b ∈ EY (envOfC qual scope s.heap.objs.size f cd :: outer)
    · obtain ⟨sl, q2⟩ := frame b o' q1 hb
      exact ⟨_, q2⟩
    · exact ⟨o', hB b o' (inB b o' q1 hb)⟩
  · have hnf : b ∉ EY (envOfC qual scope s.heap.objs.size f cd :: outer) := fun z => by
      have hf := free b z
      rcases hb with rfl | hb
      · rw [hf] at q; cases q
      · rw [hf] at hb; cases hb
    exact hB b u (inB b u qb hnf)
end
end L2
namespace L2
open PySem PySem.Spec PyProof.Rows PySem.W
structure Ky (K : Frag) (C : Addr) : Prop where
  ga : findIn K (.ref C) "__getattribute__" = some (some (.builtin "BaseException.__getattribute__"))
  gt : findIn K (.ref C) "__getattr__" = some none
  cl : findIn K (.ref C) "__class__" = some (some (.builtin "object.__class__"))
  mB : mroIn K C (.type "BaseException") = some true
  mO : mroIn K C (.type "object") = some true
section
variable {prog : Program} {w : World} {A : Around} {E : Value → Shared → Prop} {K : Frag} {h : Heap} {g : Array GenState} {d : Drawn} {t : Nat} {os : OsState} {a C : Addr} {o : Obj}
theorem AJN {R : Result → Shared → Prop} {tp : Value} (X : K.In h) (hx : h.get? a = some o) (hc : o.cls = .ref C) (hm : mroIn K C (.type "object") = some true) (hq : R (.ok (.ret (.ref C))) ⟨h, g, d, t, os⟩) : codeAny (model prog w) A (.call (.builtin "getset_descriptor.__get__") ⟨[.builtin "object.__class__", .ref a, tp], []⟩) R ⟨h, g, d, t, os⟩ := by
  have L1 := looks_mroIn (M := model prog w) X hm
  have L0 : Looks (model prog w) h (typeOf (.ref a)) (.ref C) := hc ▸ (Looks.ld hx).andThen .now
  refine codeAny_call_builtin KF.slot_gs.plain KF.entry_gs (KF.slot_gs.check _ _ _ _ _ _ _ _ KF.type_class (KF.args_gs _ _ _) ?_)
  unfold Builtin.«getset_descriptor.__get__» Builtin.Getset_descriptor.descrGet
  rw [dga_obj]
  refine wpAny_bind (wpAny_pure ?_)
  unfold Builtin.Getset_descriptor.descrGetter Builtin.Getset_descriptor.descrCheckInstance Builtin.Getset_descriptor.descrNameAndClass isInstance
  simp only [KF.owner_class]
  repeat (first | with_reducible refine L0.at ?_ | with_reducible refine L1.at ?_ | wp_step)
  refine ⟨Code.quiet_builtin _ (by decide +kernel), codeAny_builtin KF.entry_class ?_⟩
  unfold Builtin.«object.__class__» shownTypeOf
  repeat (first | with_reducible refine L0.at ?_ | with_reducible refine L1.at ?_ | wp_step)
  exact hq
theorem AKZ {nameV : Value} {Q : Unit → Shared → Prop} (FK : Ky K C) (X : K.In h) (hx : h.get? a = some o) (hc : o.cls = .ref C) (hq : Q () ⟨h, g, d, t, os⟩) :
    wpAny (model prog w) A (checkBuiltinCall "BaseException.__getattribute__" ⟨[.ref a, nameV], []⟩) Q E ⟨h, g, d, t, os⟩ := by
  have hk : builtinKind "BaseException.__getattribute__" = some .slot := by decide +kernel
  have hsplit : splitId "BaseException.__getattribute__" = some ("BaseException", "__getattribute__") := by decide +kernel
  have ha := F.args_bexc_ga (.ref a) nameV
  have L := looks_mroIn (M := model prog w) X FK.mB
  simp only [checkBuiltinCall, hk, hsplit]
  refine wpAny_bind ?_
  unfold isInstance
  repeat (first | (with_reducible refine wpAny_loadPart_at hx ?_; rw [hc]) | with_reducible refine L.at ?_ | wp_step)
  exact hq
theorem AJR {tk : Tok} {Q : Fin → Shared → Prop} (FK : Ky K C) (X : K.In h) (hx : h.get? a = some o) (hc : o.cls = .ref C) (hq : Q (.done (.ret (.ref C))) ⟨h, g, d, t, os⟩) :
    wpAny (model prog w) A (Builtin.«object.__getattribute__» ⟨[.ref a, .str "__class__" tk], []⟩) Q E ⟨h, g, d, t, os⟩ := by
  have L := looks_findIn (M := model prog w) X FK.cl
  have f5 : typeOf (.builtin "object.__class__") = pure (.type "getset_descriptor") := by
    have hk : builtinKind "object.__class__" = some .getset := by decide +kernel
    have hop : withoutEnding? "object.__class__" "#opaque" = none := by decide +kernel
    have hdat : withoutEnding? "object.__class__" "#data" = none := by decide +kernel
    simp only [typeOf, builtinType, hop, hdat, hk]
    rfl
  have f6 := F.slot_gs_get.lookup
  have f7 := F.slot_gs_set.lookup
  repeat (any_goals (first | assumption | (with_reducible refine wpAny_loadPart_at hx ?_; rw [hc]) | with_reducible refine L.at ?_ | wp_step))
  exact AJN X hx hc FK.mO (wpAny_pure hq)
theorem ANU {tk : Tok} {fill expr : Bool} {Q : Value → Shared → Prop} (FK : Ky K C) (X : K.In h) (hx : h.get? a = some o) (hc : o.cls = .ref C) (hq : Q (.ref C) ⟨h, g, d, t, os⟩) :
    wpAny (model prog w) A (getAttrBy (.ref a) (.str "__class__" tk) fill expr) Q E ⟨h, g, d, t, os⟩ := by
  have f3 : bindSpecial (.builtin "BaseException.__getattribute__") (.ref a) = pure (.builtin "BaseException.__getattribute__", [.ref a]) := by
    have hk : builtinKind "BaseException.__getattribute__" = some .slot := by decide +kernel
    have hop : withoutEnding? "BaseException.__getattribute__" "#opaque" = none := by decide +kernel
    have hdat : withoutEnding? "BaseException.__getattribute__" "#data" = none := by decide +kernel
    simp only [bindSpecial, typeOf, builtinType, hop, hdat, hk]
    rfl
  have hx0 : (expr && onTheHeap (Value.builtin "BaseException.__getattribute__")) = false := by cases expr <;> rfl
  have hx2 : (Value.builtin "BaseException.__getattribute__" == Value.builtin "object.__getattribute__") = false := by decide +kernel
  have hx1 : (onTheHeap (Value.ref C) && Value.builtin "BaseException.__getattribute__" == Value.builtin "object.__getattribute__") = false := by rw [hx2]; rfl
  have L1 := looks_findIn (M := model prog w) X FK.ga
  have L2' := looks_findIn (M := model prog w) X FK.gt
  repeat (any_goals (first | assumption | (with_reducible refine wpAny_loadPart_at hx ?_; rw [hc]) | with_reducible refine L1.at ?_ | with_reducible refine L2'.at ?_ | wp_step))
  refine codeAny_call_builtin (by decide +kernel) F.entry_bexc_ga (AKZ FK X hx hc (AJR FK X hx hc ?_))
  repeat (any_goals (first | assumption | wp_step))
theorem AI7 {s : Shared} {Q : Option Value → Shared → Prop} (FK : Ky K C) (X : K.In s.heap) (hx : s.heap.get? a = some o) (hc : o.cls = .ref C) (hq : Q (some (.ref C)) { s with toks := s.toks + 1 }) :
    wpAny (model prog w) A (getAttr? (.ref a) "__class__") Q E s := by
  obtain ⟨h, g, d, t, os⟩ := s
  unfold getAttr? getAttrBy?
  repeat (any_goals (first | assumption | with_reducible apply ANU FK X hx hc | wp_step))
end
end L2
namespace L2
open PySem PySem.Spec PyProof.Rows PySem.W
section
variable {prog : Program} {w : World} {A : Around} {E : Value → Shared → Prop} {K : Frag} {a C D : Addr} {o : Obj} {s : Shared}
theorem AMV {Q : Bool → Shared → Prop} (X : K.In s.heap) (ho : s.heap.get? a = some o) (hc : o.cls = .ref C) (hD : excIn K D HS "ValueError.__new__" = true) (hm : mroIn K C (.ref D) = some true) (hq : Q true s) :
    wpAny (model prog w) A (excMatches (.ref a) (.ref D)) Q E s := by
  obtain ⟨h, g, d, t, os⟩ := s
  obtain ⟨bm, N, nm, qn, bs, hdct, sn, sub, ab, col, dd, k0, k1, k2, k3, k5, mN, hDo, hN, hni, T⟩ := wW X hD
  have hB : bm.contains (.type "BaseException") = true := T.hasType PySem.F.excBase_ValueError.hasBase
  have hcB : (Value.ref D :: bm).contains (.type "BaseException") = true := by rw [List.contains_cons, hB, Bool.or_true]
  have L := looks_mroIn (M := model prog w) X hm
  have f := tc_notTuple
  unfold excMatches
  repeat (first | (with_reducible refine wpAny_loadPart_at ho ?_; rw [hc]) | with_reducible refine wpAny_loadPart_at hDo ?_ | (with_reducible refine wpAny_isSubtype_exc hDo ?_; rw [hcB]) | with_reducible refine L.at ?_ | wp_step)
  exact hq
theorem bB (FK : Ky K C) (hcl : (clsIn K C).isSome = true) : KitX K (.ref a) (.ref C) (fun h => ∃ o, h.get? a = some o ∧ o.cls = .ref C) where
  ty := fun _ _ _ ⟨o, hx, hc⟩ => hc ▸ (Looks.ld hx).andThen .now
  it := fun _ _ X _ => by
    unfold clsIn at hcl
    split at hcl
    · rename_i c' d' cd' sl' ho
      intro A' Q' E' s' k q
      unfold isType loadHead
      exact wpAny_bind (wpAny_loadPart (k _ _ (X _ _ ho)) (wpAny_pure q))
    · cases hcl
  ne := fun h tp dd its n sl X htp => by
    refine Bool.eq_false_iff.mpr fun q => ?_
    have e : C = tp := Value.ref.inj (beq_iff_eq.mp q)
    subst e
    unfold clsIn at hcl
    split at hcl
    · rename_i c' d' cd' sl' ho
      have z := (X _ _ ho).symm.trans htp
      cases z
    · cases hcl
  ca := fun X ⟨o, hx, hc⟩ k => AI7 FK X hx hc k
end
end L2
namespace L2
open PySem PySem.Spec PyProof.Rows PySem.W
abbrev Cx.PN (X : Cx) (a : Addr) (E : Value → Shared → Prop) : Cx := { X with A := X.A.mark (some (.ref a)), calm := false, xe := E }
section
variable {X : Cx} {pins : List (Addr × Obj)} {σ : St} {H : Hp} {s : Shared} {a : Addr} {E : Value → Shared → Prop}
theorem Inv.JC (I : Inv X pins σ H s) (a : Addr) (E : Value → Shared → Prop) : Inv (X.PN a E) pins σ H s :=
  ⟨⟨I.ok.mod, I.ok.kind, I.ok.glob, I.ok.blt, I.ok.above, I.ok.inj, I.ok.has, I.ok.cab, (fun h => by cases h), I.ok.frames, I.ok.stk, I.ok.exf, I.ok.bs, I.ok.bsz, I.ok.noex, I.ok.exfs, I.ok.HR, I.ok.frf⟩, I.os, I.bare, I.base, I.loc, I.cell, I.free, I.freeC, I.pin, I.hok, I.len⟩
theorem Inv.vW (ok : X.Ok) (I : Inv (X.PN a E) pins σ H s) : Inv X pins σ H s := ⟨ok, I.os, I.bare, I.base, I.loc, I.cell, I.free, I.freeC, I.pin, I.hok, I.len⟩
theorem Inv.AAe (I : Inv X pins σ H s) {o : HO} (ha : H a = none) (h0 : X.s₀.heap.get? a = none) (hL : a ≠ X.env.locals) (hcl : ∀ x c, X.env.cells.lookup x = some c → c ≠ a) (hp : ∀ p ∈ X.pn ++ pins, p.1 ≠ a) (new : Em X.prog X.w (upd H a o) s.heap a o) : Inv X pins σ (upd H a o) s := by
  have ne : ∀ b u, H b = some u → b ≠ a := fun b u e z => by rw [z, ha] at e; cases e
  refine ⟨I.ok, I.os, I.bare, ⟨I.base.keep, I.base.slot, fun b o e n hx => ?_, I.base.there, fun b xs e => ?_, fun b o u e => ?_, fun b ps e => ?_⟩, I.loc, I.cell, ?_, fun x c e => ?_, fun p hpp => ?_, fun b u e => ?_, I.len⟩
  · rw [Ba (fun z : b = a => by rw [z, h0] at e; cases e)]
    exact I.base.free b o e n hx
  · have q := I.base.tups b xs e
    rw [Ba (ne b _ q)]
    exact q
  · have q := I.base.frzs b o u e
    rw [Ba (ne b _ q)]
    exact q
  · obtain ⟨more, q⟩ := I.base.tbls b ps e
    exact ⟨more, by rw [Ba (ne b _ q)]; exact q⟩
  · rw [Ba (Ne.symm hL)]
    exact I.free
  · rw [Ba (hcl x c e)]
    exact I.freeC x c e
  · obtain ⟨p1, p2, p3⟩ := I.pin p hpp
    exact ⟨p1, by rw [Ba (hp p hpp)]; exact p2, p3⟩
  · by_cases hb : b = a
    · subst hb
      rw [Dg] at e
      cases e
      exact new
    · rw [Ba hb] at e
      refine (I.hok b u e).Jk (fun _ _ _ q => q) (fun c q => ?_) fun c xs q => ?_
      · rw [Ba (ne c _ q)]; exact q
      · rw [Ba (ne c _ q)]; exact q
theorem lK {M : Model} {A : Around} {i : Nat} {x : Str} {pos : Pos} {Q : Unit → Shared → Prop} (I : Inv X pins σ H s) (hN : X.N.Nodup) (hi : X.N[i]? = some x) (hx : X.env.kindOf x = some .local) (h : ∀ s', Inv X pins (σ.set i none) H s' → Q () s') : wpAny M A (do bindName X.env x .none; unbindBehindTheSuite X.env x pos) Q E s := by
  obtain ⟨m, hn, hl⟩ := id I.loc
  have hcls : (X.env.scope.kind == .class || (X.env.scope.kind == .module && X.env.locals != X.env.globals)) = false := by rw [I.ok.kind]; rfl
  have Iz := I.Iz
  refine wpAny_nameGoes_keeps hx hn hcls fun h' v hn' hs => ?_
  obtain ⟨oL, _, _, hoL, _⟩ := id hn
  have tracked : Ec X.prog X.w H h' := fun b ob e => by
    refine (I.hok b ob e).Jk (fun c w' hc q => (hs.2 c ?_).trans q) (fun _ q => q) fun _ _ q => q
    rintro rfl
    rcases hc with rfl | hc
    · rw [I.free] at e; cases e
    · rw [I.free] at hc; cases hc
  refine h _ ⟨I.ok, I.os, I.bare, ⟨fun b o e n hb hx => ?_, fun b o e n hb hx => ?_, I.base.free, fun b o e hx => ?_, I.base.tups, I.base.frzs, I.base.tbls⟩, ⟨_, hn', fun j y v' e1 e2 e3 => ?_⟩, fun y c e => ?_, I.free, I.freeC, fun p hp => ?_, tracked, by simpa using I.len⟩
  · exact (hs.2 b (Nat.ne_of_lt (Nat.lt_of_lt_of_le (Heap.lt_size e) I.ok.above))).trans (I.base.keep b o e n hb hx)
  · obtain ⟨sl, e1⟩ := I.base.slot b o e n hb hx
    exact ⟨sl, (hs.2 b (Nat.ne_of_lt (Nat.lt_of_lt_of_le (Heap.lt_size e) I.ok.above))).trans e1⟩
  · obtain ⟨o', e1⟩ := I.base.there b o e hx
    exact ⟨o', (hs.2 b (Nat.ne_of_lt (Nat.lt_of_lt_of_le (Heap.lt_size e) I.ok.above))).trans e1⟩
  · by_cases hj : j = i
    · subst hj
      rw [List.getElem?_set] at e2
      split at e2
      · split at e2 <;> cases e2
      · rename_i hne; exact absurd rfl hne
    · rw [List.getElem?_set_ne (Ne.symm hj)] at e2
      obtain ⟨u', r', q⟩ := hl j y v' e1 e2 e3
      refine ⟨u', r', ?_⟩
      rcases q with ⟨k, e⟩ | ⟨k, c, e, z⟩
      · refine .inl ⟨k, ?_⟩
        have : y ≠ x := fun e => hj (dN hN e1 (e ▸ hi))
        simp [this, e]
      · exact .inr ⟨k, c, e, z.sameBut hs (Iz y c e)⟩
  · obtain ⟨w', z⟩ := I.cell y c e
    exact ⟨w', z.sameBut hs (Iz y c e)⟩
  · obtain ⟨e, n, ne, nf, d⟩ := I.pin p hp
    exact ⟨(hs.2 p.1 ne).trans e, n, ne, nf, d⟩
end
def Ij (a C : Addr) : Heap → Prop := fun h => ∃ o, h.get? a = some o ∧ o.cls = .ref C
def XS (X : Cx) (pins : List (Addr × Obj)) (σ : St) (a C : Addr) (H' : Hp) (s' : Shared) : Prop :=
  ∃ (t : Addr) (B : Heap), Heap.FlyingW B X.stack a (.ref C) (.ref t) s'.heap ∧ (∀ h', B.StaysIn h' → s'.heap.UpToSlots h' → Inv X pins σ H' { s' with heap := h' }) ∧ H' a = none ∧ X.s₀.heap.get? a = none ∧ a ≠ X.env.locals ∧ (∀ x c, X.env.cells.lookup x = some c → c ≠ a) ∧ ∀ p ∈ X.pn ++ pins, p.1 ≠ a
section
variable {X : Cx} {pins : List (Addr × Obj)} {σ : St} {H : Hp} {s s' : Shared} {e : Value}
theorem Inv.flew (I : Inv X pins σ H s) {E : XK} (h : Kv X.prog X.w X.stack H s E e s') (hex : X.ex = []) : ∃ (a : Addr) (cls : Value) (H' : Hp), e = .ref a ∧ E cls none H' ∧ ∀ C, cls = .ref C → XS X pins σ a C H' s' := by
  obtain ⟨a, t, cls, B, H', rfl, hos, hg, hfl, hst, _, hn, hH, hE⟩ := h
  refine ⟨a, cls, H', rfl, hE, fun C hC => ?_⟩
  subst hC
  refine ⟨t, B, hfl, fun h' hB hu => ?_, hH, ?_, ?_, fun x c hc z => ?_, fun p hp z => ?_⟩
  · obtain ⟨un, hok⟩ := hst h' hB hu
    exact I.uG (s' := { s' with heap := h' }) (ch := []) hos un hok hg (fun b z => absurd z (by simp))
  · cases q : X.s₀.heap.get? a with
    | none => rfl
    | some o =>
      obtain ⟨o', q1⟩ := I.base.there a o q (by rw [hex]; simp)
      rw [hn] at q1
      cases q1
  · intro z
    obtain ⟨m, ⟨o, _, _, ho, _⟩, _⟩ := I.loc
    rw [← z, hn] at ho
    cases ho
  · obtain ⟨v, o, ho, _⟩ := I.cell x c hc
    rw [z, hn] at ho
    cases ho
  · have := (I.pin p hp).1
    rw [z, hn] at this
    cases this
end
end L2
namespace L2
open PySem PySem.Spec PyProof.Rows PySem.W
section
variable {X : Cx} {pins : List (Addr × Obj)} {σ : St} {H' : Hp} {s' : Shared} {a C Dc : Addr} {i : Nat} {x n : Str} {np pos : Pos} {b₀ : Stmt} {JC : List Stmt} {tb : TS} {D : Ends}
def Tn (i : Nat) (D : Ends) : Ends := { nx := fun σ H => D.nx (σ.set i none) H, rt := D.rt }
theorem AOe (S6 : X.stack = X.env :: X.outer) (hfm : X.env.frame = some X.env.locals) (hN : X.N.Nodup) (hi : X.N[i]? = some n) (hl : X.env.kindOf n = some .local) (hg : Gl X x) (hm : X.mg x = some (.ref Dc)) (hD : excIn X.K Dc HS "ValueError.__new__" = true) (hsub : mroIn X.K C (.ref Dc) = some true) (S : XS X pins σ a C H' s') (hb : FZ (X.PN a fun _ _ => False) (b₀ :: JC) tb) (ht : tb (Tn i D) (σ.set i (some (.ref a))) (upd H' a (.ext (Ij a C)))) (hd : (x == ("__debug__" : Str)) = false := by decide) (hf : X.fn n = true ∨ X.env.scope.names.lookup n = some .local := by first | exact .inl rfl | exact .inr rfl | assumption) :
    wpAny (model X.prog X.w) X.A (noteFrame (.ref a) X.env) (fun _ s₂ => wpAny (model X.prog X.w) X.A (setFlight (.ref a) none) (fun _ s₃ =>
      wpAny (model X.prog X.w) X.A (handleBy (.ref a) X.env [.ExceptHandler (some (.Name x np)) (some n) (b₀ :: JC) pos]) (SP X pins D) X.xe s₃) X.xe s₂) X.xe s' := by
  obtain ⟨t, B, hfl, cF, hH, h0, hL, hcl, hpn⟩ := S
  have I0 := cF s'.heap hfl.1 (Heap.UpToSlots.refl _)
  have hfr : X.A.frames = some (X.env :: X.outer) := by rw [← S6]; exact I0.ok.frames
  rw [S6] at hfl
  refine wpAny_looks_onW (L := X.env.locals) hfr hfm hfl fun h₄ hheld₄ hsm₄ => ?_
  refine wpAny_landsW hheld₄ fun h₅ bU tU => ?_
  have I5 := cF h₅ bU.1 (hsm₄.trans tU)
  obtain ⟨ob, hob, hobc⟩ := bU.there
  refine wpAny_handleBy_cons (codeAny_handlers_test ?_) (by intro q; cases q)
  refine Rp (X := X.PN a fun _ _ => False) (I5.JC a fun _ _ => False) hg hm ?_ hd
  refine AMV (K := X.K) I5.DW hob hobc hD hsub (codeAny_handlers_suite_as ?_)
  refine lands_againW bU fun h₆ iQ ABp => ?_
  have I6 := cF h₆ iQ.1 ((hsm₄.trans tU).trans ABp)
  obtain ⟨oe, hoe, hoec⟩ := iQ.there
  have I7 := I6.AAe (o := .ext (Ij a C)) hH h0 hL hcl hpn ⟨⟨oe, hoe, hoec⟩, ⟨oe, hoe⟩, fun h1 h2 ⟨o, q1, q2⟩ k => ⟨o, k o q1, q2⟩⟩
  refine Zo (X := X.PN a fun _ _ => False) (v := .ref a) (I7.JC a _) hN hi (.inl hl) rfl (fun s8 I8 => ?_) hf
  refine wpAny_mono (hb pins s8 _ _ (Tn i D) I8 ht) (fun f s9 h9 => ?_) fun _ _ z => z.elim
  cases f with
  | next =>
    obtain ⟨σ1, H1, I9, q⟩ := h9
    exact lK (I9.vW I0.ok) hN hi hl fun s10 I10 => ⟨_, H1, I10, q⟩
  | ret u =>
    obtain ⟨v, σ1, H1, I9, rv, q⟩ := h9
    exact lK (I9.vW I0.ok) hN hi hl fun s10 I10 => ⟨v, _, H1, I10, rv, q⟩
  | brk =>
    obtain ⟨_, _, _, q⟩ := h9
    exact q.elim
  | cont =>
    obtain ⟨_, _, _, q⟩ := h9
    exact q.elim
end
end L2
namespace L2
open PySem PySem.Spec PyProof.Rows PySem.W
theorem mU : ∀ (ds : List Addr) (its : List Value), Vals (ds.map V.ref) its → its = ds.map Value.ref
  | [], _, r => by cases r; rfl
  | d :: ds, _, r => by
    cases r with
    | cons p t =>
      cases p
      exact congrArg (Value.ref d :: ·) (mU ds _ t)
section
variable {X : Cx} {C : Addr}
theorem YC (FK : Ky X.K C) (hcl : (clsIn X.K C).isSome = true) : Gz X (.builtin "isinstance") (fun xs H Q => ∃ (a : Addr) (c : V) (b : Bool), xs = [.ref a, c] ∧ H a = some (.ext (Ij a C)) ∧ ((∃ D, c = .ref D ∧ kitOne X.K (.ref C) (.ref D) = some b) ∨ (∃ T, c = .ty T ∧ kitOne X.K (.ref C) (.type T) = some b) ∨ (∃ (tp : Addr) (ds : List Addr), c = .ref tp ∧ H tp = some (.tup (ds.map V.ref)) ∧ kitAny X.K (.ref C) (ds.map Value.ref) = some b)) ∧ Q (.bl b) H) := by
  intro pins s σ H xs us Q I r h
  obtain ⟨a, c, b, rfl, ha, hc, q⟩ := h
  obtain ⟨u, u2, rfl, rx, rx2⟩ := vals2 r
  cases rx
  have hp : Ij a C s.heap := (show Em X.prog X.w H s.heap a (.ext (Ij a C)) from I.hok a _ ha).1
  have fin : ∀ tk, EP X pins σ Q (.bool b) { s with toks := tk } := fun tk => ⟨.bl b, H, I.kept (t' := tk) (fun _ _ e => e), rfl, q⟩
  rcases hc with ⟨D, rfl, e⟩ | ⟨T, rfl, e⟩ | ⟨tp, ds, rfl, ht, e⟩
  · cases rx2
    exact kia_one (bB FK hcl) I.DW hp e (by simp) fin
  · cases rx2
    exact kia_one (bB FK hcl) I.DW hp e (by simp) fin
  · cases rx2
    obtain ⟨its, r2, ⟨o, ho, hoc, n, hd⟩, _⟩ := I.tuple (Dt.of ht)
    have hits := mU ds its r2
    subst hits
    obtain ⟨oc, od, odt, osl⟩ := o
    dsimp only at hoc hd
    subst hoc hd
    exact kia_tup (bB FK hcl) I.DW hp ho e (by simp) fin
end
end L2
namespace L2
open PySem PySem.Spec PyProof.Rows PySem.W
abbrev GJ := Am → Option Str
def t8 (K : Frag) (R : Str → Hp → Prop) (ts : TS) (G : GJ) : Prop := ∀ (H0 : Hp) (O0 : List Addr) (Gh : Hp) (σ : St) (H : Hp) (ρ : Am) (C : Str) (E : Ends), CP O0 H0 → By K H0 O0 Gh σ H ρ → G ρ = some C →
  (∀ (σ' : St) (H' : Hp) (ρ' : Am), By K H0 O0 Gh σ' H' ρ' → R C H') → ts E σ H
structure JX (X : Cx) (K : Frag) (R : Str → Hp → Prop) (st : Stmt) (ts : TS) (F : Ao) (G : GJ) : Prop where
  pe : PS X st ts
  pu : Jo K ts F
  px : t8 K R ts G
structure Nz (X : Cx) (K : Frag) (R : Str → Hp → Prop) (st : List Stmt) (ts : TS) (F : Ao) (G : GJ) : Prop where
  pe : FZ X st ts
  pu : Jo K ts F
  px : t8 K R ts G
def XM : GJ := fun _ => none
def Mm (F : Ao) (G G' : GJ) : GJ := fun ρ => match G ρ with
  | some C => some C
  | none => (F ρ).bind fun o => match o with
    | .nx ρ' => G' ρ'
    | _ => none
def Oh (c : PB) (G G' : GJ) : GJ := fun ρ => (c (full ρ)).bind fun b => if b = true then G ρ else G' ρ
def cN (C : Str) : GJ := fun _ => some C
section
variable {X : Cx} {K : Frag} {R : Str → Hp → Prop} {st : Stmt} {rest : List Stmt} {t u : TS} {F F' : Ao} {G G' : GJ} {pos : Pos}
theorem Ye {st : List Stmt} (h : Gu X.Fe K st t F) : Nz X K R st t F XM := ⟨FZ.Fe h.pe, h.pu, by
  intro H0 O0 Gh σ H ρ C E ok s hf q
  cases hf⟩
theorem pQ (h : JX X K R st t F G) : Nz X K R [st] t F G := ⟨d8 h.pe, h.pu, h.px⟩
theorem tO (h1 : JX X K R st t F G) (h2 : Nz X K R rest u F' G') : Nz X K R (st :: rest) (Xn t u) (Aw F F') (Mm F G G') := ⟨gJ h1.pe h2.pe, (by
  intro H0 O0 Gh σ H ρ o E ok s hf q
  obtain ⟨o1, e1, hf⟩ := Al hf
  refine h1.pu H0 O0 Gh σ H ρ o1 _ ok s e1 ?_
  cases o1 with
  | nx ρ' => exact fun σ' H' s' => h2.pu H0 O0 Gh σ' H' ρ' o E ok s' hf q
  | rt d => cases hf; exact q
  | rl d => cases hf; exact q
  | rn d => cases hf; exact q
  | rp d e => cases hf; exact q
  | ro d e => cases hf; exact q
  | bk d => cases hf; exact q
  | ct d => cases hf; exact q), by
  intro H0 O0 Gh σ H ρ C E ok s hf q
  unfold Mm at hf
  cases hG : G ρ with
  | some C' =>
    rw [hG] at hf
    cases hf
    exact h1.px H0 O0 Gh σ H ρ C _ ok s hG q
  | none =>
    rw [hG] at hf
    obtain ⟨o1, e1, hf⟩ := Al hf
    cases o1 with
    | nx ρ' => exact h1.pu H0 O0 Gh σ H ρ (.nx ρ') _ ok s e1 fun σ' H' s' => h2.px H0 O0 Gh σ' H' ρ' C E ok s' hf q
    | rt d => cases hf
    | rl d => cases hf
    | rn d => cases hf
    | rp d e => cases hf
    | ro d e => cases hf
    | bk d => cases hf
    | ct d => cases hf⟩
theorem oH {c : Expr} {a b : List Stmt} {tc : TT} {pc : PB} (hc : JT X.Fe K c tc pc) (ha : Nz X K R a t F G) (hb : Nz X K R b u F' G') : JX X K R (.If c a b pos) (Ze tc t u) (Cd pc F F') (Oh pc G G') := ⟨nU (PT.Fe hc.pe) ha.pe hb.pe, (by
  intro H0 O0 Gh σ H ρ o E ok s hf q
  obtain ⟨k, e1, hf⟩ := Al hf
  have ⟨o1, e2⟩ := s.Hj ok
  refine hc.pu O0 σ H (full ρ) k _ o1 e2 e1 fun H' s' => ?_
  cases k with
  | true =>
    rw [if_pos rfl] at hf ⊢
    exact ha.pu H0 O0 Gh σ H' ρ o E ok (s.grow s') hf q
  | false =>
    rw [if_neg Bool.false_ne_true] at hf ⊢
    exact hb.pu H0 O0 Gh σ H' ρ o E ok (s.grow s') hf q), by
  intro H0 O0 Gh σ H ρ C E ok s hf q
  obtain ⟨k, e1, hf⟩ := Al hf
  have ⟨o1, e2⟩ := s.Hj ok
  refine hc.pu O0 σ H (full ρ) k _ o1 e2 e1 fun H' s' => ?_
  cases k with
  | true =>
    rw [if_pos rfl] at hf ⊢
    exact ha.px H0 O0 Gh σ H' ρ C E ok (s.grow s') hf q
  | false =>
    rw [if_neg Bool.false_ne_true] at hf ⊢
    exact hb.px H0 O0 Gh σ H' ρ C E ok (s.grow s') hf q⟩
end
structure AOr (P : Program) (w : World) (K : Frag) (mg : Str → Option Value) (base : Heap) (k : Nat) (x : Str) (ps : List Str) (sp : Sp) : Prop where
  ex : ∃ (f : Addr) (fd : FuncData), Er P w K mg base (Kv P w) k f fd ps sp ∧ mg x = some (.ref f) ∧ keepIn K (.ref f) = true ∧ Binds K fd ps [] ∧ ∃ o, K.lookup f = some o ∧ o.data = .func fd
def Q9 (K : Frag) (n : Nat) (mg : Str → Option Value) (g : List D → Option Str) : Sp := fun vs H _ E => vs.length = n ∧ ∃ (O : List Addr) (ds : List D) (x : Str), CP O H ∧ BL K (Ai O H) vs ds ∧ g ds = some x ∧ ∀ H', Ak H H' → ∀ C, mg x = some (.ref C) → E (.ref C) none H'
def VD (n m : Nat) (G : GJ) : List D → Option Str := fun ds => if ds.length = n then G (GX m ds) else none
section
variable {P : Program} {w : World} {K : Frag} {mg : Str → Option Value} {base : Heap}
theorem wH {N : List Str} {qual : Str} {scope : Scope} {f : Addr} {cd : Value} {A : Around} {outer : List Env} {s : Shared} {H : Hp} {E : XK} {x : Str} {C : Addr} {txt : Str} {j : Nat} {tp np cpos pos : Pos} (hh : (A.deeper (envOfC qual scope s.heap.objs.size f cd)).handled = none) (hg : Gl (Fo (Kv P w) P w K mg base N qual scope f cd A outer s H E) x) (hm : mg x = some (.ref C)) (hq : excIn K C HS "ValueError.__new__" = true) (hd : (x == ("__debug__" : Str)) = false := by decide) :
    JX (Fo (Kv P w) P w K mg base N qual scope f cd A outer s H E) K (fun y H' => ∀ C, mg y = some (.ref C) → E (.ref C) none H') (.Raise (some (.Call (.Name x np) [.Constant (.str txt) j tp] [] cpos)) none pos)
      (fun _ σ H => GD (tC (.str txt)) Gd σ H fun vs H1 => vs.length ≤ sizeLine ∧ E (.ref C) none H1) Qv (cN x) := by
  refine ⟨AMX (X := Fo (Kv P w) P w K mg base N qual scope f cd A outer s H E) (XR := fun H1 => E (.ref C) none H1) hh hg hm hq (Eo nA HY) (fun pins σ H1 s1 h' e vs I hx xr => AGp pins σ H1 s1 h' e vs I hx xr) (hd := hd), ?_, ?_⟩
  · intro H0 O0 G σ H ρ o E ok s hf q
    cases hf
  · intro H0 O0 Gh σ H ρ C' E' ok s hf q
    cases hf
    exact ⟨by show 1 ≤ sizeLine; decide, q σ H ρ s C hm⟩
end
end L2
namespace L2
open PySem PySem.Spec PyProof.Rows PySem.W
def XE (X : Cx) (pins : List (Addr × Obj)) (σ : St) (R : Addr → Hp → Prop) : Value → Shared → Prop := fun e s' => ∃ (a C : Addr) (H' : Hp), e = .ref a ∧ XS X pins σ a C H' s' ∧ R C H'
def m9 (R : Addr → Hp → Prop) : XK := fun cls _ H' => ∃ C, cls = .ref C ∧ R C H'
end L2
namespace L2
open PySem PySem.Spec PyProof.Rows PySem.W
def AFg (K : Frag) (C : Addr) : List V → Hp → VK → Prop := fun xs H Q => ∃ (a : Addr) (c : V) (b : Bool), xs = [.ref a, c] ∧ H a = some (.ext (Ij a C)) ∧
    ((∃ D, c = .ref D ∧ kitOne K (.ref C) (.ref D) = some b) ∨ (∃ T, c = .ty T ∧ kitOne K (.ref C) (.type T) = some b) ∨ (∃ (tp : Addr) (ds : List Addr), c = .ref tp ∧ H tp = some (.tup (ds.map V.ref)) ∧ kitAny K (.ref C) (ds.map Value.ref) = some b)) ∧ Q (.bl b) H
def Wg (K : Frag) (C : Addr) (j : Nat) (c : TE) : TE := J9 (AFg K C) (GD (Dm j) (GD c Gd))
def ZV : List Addr → TA
  | [] => Gd
  | d :: ds => GD (tC (.ref d)) (ZV ds)
theorem pN : ∀ (ds : List Addr) {σ : St} {H : Hp} {Q : List V → Hp → Prop}, Q (ds.map V.ref) H → ZV ds σ H Q
  | [], _, _, _, h => h
  | d :: ds, _, _, _, h => pN ds h
def Ul (K : Frag) (ik j : Nat) (D1 D2 : Addr) (ds : List Addr) (C : Addr) : TS :=
  Xn (Ff (Wz (GD (Wg K C j (tC (.ref D1))) (GD (Wg K C j (tC (.ref D2))) (GD (Wg K C j (dM (ZV ds))) Gd)))) (FN ik))
    (Mi (Rn K "list" Vf (Dm ik) (GD (Wg K C j (tC (.ty "ValueError"))) Gd)))
theorem AGO {K : Frag} {ik j : Nat} {D1 D2 : Addr} {ds : List Addr} {C : Addr} {r1 r2 r3 : Bool} (k1 : kitOne K (.ref C) (.ref D1) = some r1) (k2 : kitOne K (.ref C) (.ref D2) = some r2) (k3 : kitAny K (.ref C) (ds.map Value.ref) = some r3) (k4 : kitOne K (.ref C) (.type "ValueError") = some true) (hds : ds.length ≤ 1000) (hne : ik ≠ j) {σ : St} {H : Hp} {a : Addr} {D : Ends} (hj : σ[j]? = some (some (.ref a))) (hik : ik < σ.length) (ha : H a = some (.ext (Ij a C))) (h : ∀ (p : Addr) (H' : Hp), Ak H H' → H p = none → H' p = some (.lst [.bl r1, .bl r2, .bl r3, .bl true]) → D.nx (σ.set ik (some (.ref p))) H') : Ul K ik j D1 D2 ds C D σ H := by
  refine ⟨_, hj, a, _, r1, rfl, ha, .inl ⟨D1, rfl, k1⟩, ?_⟩
  refine ⟨_, hj, a, _, r2, rfl, ha, .inl ⟨D2, rfl, k2⟩, ?_⟩
  refine ⟨_, hj, pN ds ⟨by rw [List.length_map]; exact Nat.le_trans hds (by decide), fun tp htp => ?_⟩⟩
  have na : a ≠ tp := fun z => by rw [z, htp] at ha; cases ha
  have ha1 : (upd H tp (.tup (ds.map V.ref))) a = some (.ext (Ij a C)) := by rw [Ba na]; exact ha
  refine ⟨a, _, r3, rfl, ha1, .inr (.inr ⟨tp, ds, rfl, Dg, k3⟩), ?_⟩
  refine ⟨by show 3 ≤ sizeLine; decide, fun p hp => ?_⟩
  have s1 : Ak H (upd H tp (.tup (ds.map V.ref))) := Ak.new htp
  have s2 : Ak (upd H tp (.tup (ds.map V.ref))) (upd (upd H tp (.tup (ds.map V.ref))) p (.lst [.bl r1, .bl r2, .bl r3])) := Ak.new hp
  have hpn : H p = none := s1.free hp
  have npa : a ≠ p := fun z => by rw [z, hp] at ha1; cases ha1
  refine ⟨_, List.getElem?_set_self hik, .inl ⟨rfl, _, Bg.of Dg⟩, _, by rw [List.getElem?_set_ne hne]; exact hj, a, _, true, rfl, (by rw [Ba npa]; exact ha1), .inr (.inl ⟨_, rfl, k4⟩), p, _, _, rfl, rfl, Dg, by show 3 < sizeLine; decide, ?_⟩
  refine h p _ (fun b o e => ?_) hpn Dg
  have nb : b ≠ p := fun z => by rw [z, hpn] at e; cases e
  rw [Ba nb]
  exact s2 b o (s1 b o e)
structure KC (K : Frag) (mg : Str → Option Value) (C1 C2 : Addr) (ds : List Addr) : Prop where
  m1 : mg "Full" = some (.ref C1)
  m2 : mg "NoKey" = some (.ref C2)
  a1 : kitOne K (.ref C1) (.ref C1) = some true
  a2 : kitOne K (.ref C1) (.ref C2) = some false
  a3 : kitAny K (.ref C1) (ds.map Value.ref) = some false
  a4 : kitOne K (.ref C1) (.type "ValueError") = some true
  b1 : kitOne K (.ref C2) (.ref C1) = some false
  b2 : kitOne K (.ref C2) (.ref C2) = some true
  b3 : kitAny K (.ref C2) (ds.map Value.ref) = some false
  b4 : kitOne K (.ref C2) (.type "ValueError") = some true
  dl : ds.length ≤ 1000
end L2
namespace L2
open PySem PySem.Spec PyProof.Rows PySem.W
end L2
namespace L2
open PySem PySem.Spec PyProof.Rows PySem.W
abbrev V3 := Bc → Option Str
def oJ (K : Frag) (R : Str → Hp → Prop) (te : TE) (g : V3) : Prop := ∀ (O : List Addr) (σ : St) (H : Hp) (ρ : Bc) (C : Str) (Q : VK), CP O H → Dl K (Ai O H) σ ρ → g ρ = some C → (∀ H', Ak H H' → R C H') → te σ H Q
structure JLX (X : Cx) (K : Frag) (R : Str → Hp → Prop) (e : Expr) (te : TE) (f : BW) (g : V3) : Prop where
  pe : PE X e te
  pu : LQ K te f
  px : oJ K R te g
structure JEX (X : Cx) (K : Frag) (R : Str → Hp → Prop) (e : Expr) (te : TE) (f : PF) (g : V3) : Prop where
  pe : PE X e te
  pu : Gj K te f
  px : oJ K R te g
section
variable {P : Program} {w : World} {K : Frag} {mg : Str → Option Value} {base : Heap} {N : List Str} {qual : Str} {scope : Scope} {f : Addr} {cd : Value} {A : Around} {outer : List Env} {s : Shared} {H : Hp} {E : XK}
  {k n : Nat} {x : Str} {ps : List Str} {e : Expr} {es : List Expr} {t : TA} {r : BW} {p pos : Pos} {g : List D → Option Str}
end
end L2
namespace L2
open PySem PySem.Spec PyProof.Rows PySem.W
theorem ABQ (n m : Nat) (G : GJ) : J4 n (VD n m G) := fun ds a h => by
  unfold VD at h
  by_cases hc : ds.length = n
  · exact hc
  · rw [if_neg hc] at h; cases h
structure JAX (X : Cx) (K : Frag) (R : Str → Hp → Prop) (es : List Expr) (t : TA) (f : BW) (g : V3) : Prop where
  pe : PA X es t
  pu : We K t f
  px : ∀ (O : List Addr) (σ : St) (H : Hp) (ρ : Bc) (C : Str) (Q : List V → Hp → Prop), CP O H → Dl K (Ai O H) σ ρ → g ρ = some C → (∀ H', Ak H H' → R C H') → t σ H Q
end L2
namespace L2
open PySem PySem.Spec PyProof.Rows PySem.W
section
variable {X : Cx} {c1 : Stmt} {t1 : Ends → (Addr → Hp → Prop) → St → Hp → Prop} {x n : Str} {i : Nat} {Dc : Addr} {Cs : List Addr} {np hpos pos : Pos} {b₀ : Stmt} {JC : List Stmt} {tb : Addr → TS}
def eG (t1 : Ends → (Addr → Hp → Prop) → St → Hp → Prop) (i : Nat) (Cs : List Addr) (tb : Addr → TS) : TS := fun D σ H =>
  t1 D (fun C H2 => C ∈ Cs ∧ ∀ a, H2 a = none → tb C (Tn i D) (σ.set i (some (.ref a))) (upd H2 a (.ext (Ij a C)))) σ H
theorem ALu (S6 : X.stack = X.env :: X.outer) (hfm : X.env.frame = some X.env.locals) (hN : X.N.Nodup) (hi : X.N[i]? = some n) (hl : X.env.kindOf n = some .local) (hg : Gl X x) (hm : X.mg x = some (.ref Dc)) (hD : excIn X.K Dc HS "ValueError.__new__" = true) (hsub : ∀ C ∈ Cs, mroIn X.K C (.ref Dc) = some true) (h1 : ∀ (pins : List (Addr × Obj)) (s : Shared) (σ : St) (H : Hp) (D : Ends) (R : Addr → Hp → Prop), Inv X pins σ H s → t1 D R σ H → wpAny (model X.prog X.w) X.A (exec c1 X.env) (SP X pins D) (XE X pins σ R) s) (hb : ∀ (a C : Addr), C ∈ Cs → FZ (X.PN a fun _ _ => False) (b₀ :: JC) (tb C)) (hd : (x == ("__debug__" : Str)) = false := by decide) (hf : X.fn n = true ∨ X.env.scope.names.lookup n = some .local := by first | exact .inl rfl | exact .inr rfl | assumption) :
    PS X (.Try [c1] [.ExceptHandler (some (.Name x np)) (some n) (b₀ :: JC) hpos] [] [] pos) (eG t1 i Cs tb) := by
  intro pins s σ H D I h
  refine wpAny_Try_except (wpAny_mono (?_ : wpAny (model X.prog X.w) X.A (execs [c1] X.env) (SP X pins D) (XE X pins σ (fun C H2 => C ∈ Cs ∧ ∀ a, H2 a = none → tb C (Tn i D) (σ.set i (some (.ref a))) (upd H2 a (.ext (Ij a C))))) s) (fun f s1 q => ?_) fun e s1 q => ?_)
  · refine wpAny_execs_cons (wpAny_mono (h1 pins s σ H D _ I h) (fun f s2 q => ?_) fun _ _ z => z)
    cases f with
    | next => exact wpAny_execs_nil q
    | ret v => exact q
    | brk => exact q
    | cont => exact q
  · cases f with
    | next => exact wpAny_execs_nil q
    | ret v => exact q
    | brk => exact q
    | cont => exact q
  · obtain ⟨a, C, H', rfl, S, hC, ht⟩ := q
    have hn : H' a = none := by
      obtain ⟨t, B, _, _, hH, _⟩ := S
      exact hH
    exact AOe S6 hfm hN hi hl hg hm hD (hsub C hC) S (hb a C hC) (ht a hn) hd hf
end
end L2
namespace L2
open PySem PySem.Spec PyProof.Rows PySem.W
section
variable {K : Frag} {G H : Hp}
theorem Slots.WL {v : Option V} {σ : St} {ρ : Am} {O : List Addr} (s : Slots K G H σ ρ O) : ∀ {j : Nat}, ρ[j]? = some .no → Slots K G H (σ.set j v) ρ O := by
  induction s with
  | nil => intro j h; simp at h
  | no s ih =>
    intro j h
    cases j with
    | zero => exact .no s
    | succ j => exact .no (ih (by simpa using h))
  | sh r s ih =>
    intro j h
    cases j with
    | zero => simp at h
    | succ j => exact .sh r (ih (by simpa using h))
  | ow e r s ih =>
    intro j h
    cases j with
    | zero => simp at h
    | succ j => exact .ow e r (ih (by simpa using h))
  | on e r s ih =>
    intro j h
    cases j with
    | zero => simp at h
    | succ j => exact .on e r (ih (by simpa using h))
  | tr e s ih =>
    intro j h
    cases j with
    | zero => simp at h
    | succ j => exact .tr e (ih (by simpa using h))
theorem By.WL {H0 : Hp} {O0 : List Addr} {σ : St} {ρ : Am} {v : Option V} (t : By K H0 O0 G σ H ρ) {j : Nat} (h : ρ[j]? = some .no) : By K H0 O0 G (σ.set j v) H ρ := by
  obtain ⟨O, s0, n, nd, g, sl⟩ := t.ex
  exact ⟨O, s0, n, nd, g, sl.WL h⟩
end
structure KC3 (K : Frag) (mg : Str → Option Value) (x1 : Str) (C1 : Addr) (ds : List Addr) : Prop where
  m1 : mg x1 = some (.ref C1)
  a1 : kitOne K (.ref C1) (.ref C1) = some true
  a3 : kitAny K (.ref C1) (ds.map Value.ref) = some false
  a4 : kitOne K (.ref C1) (.type "ValueError") = some true
  dl : ds.length ≤ 1000
def Xb : Option Sl → Bool
  | some .no => true
  | _ => false
theorem ALz {s : Option Sl} (h : Xb s = true) : s = some .no := by
  unfold Xb at h
  split at h
  · rfl
  · cases h
end L2
namespace L2
open PySem PySem.Spec PyProof.Rows
def Hr (f : Str) : List (D × D) → Option D
  | [] => none
  | (k, d) :: r => match k with
    | .str g => if f = g then some d else Hr f r
    | _ => Hr f r
def Kw (f : Str) : D → Option D
  | .dict (_ :: kvs) => Hr f kvs
  | _ => none
def Kc (e : PF) (f : Str) : PF := fun ρ => (e ρ).bind (Kw f)
def Hu (K : Frag) (f : Str) : Prop := ∀ C, Lk K C → OD K C f
section
variable {X : Cx} {K : Frag}
theorem uM {H : Hp} (f : Str) : ∀ {fs : List (Str × V)} {ds : List D} {d : D}, BL K H (fs.map (·.2)) ds → Hr f (((fs.map (·.1)).zip ds).map fun p => (PyData.str p.1, p.2)) = some d → ∃ v, fs.lookup f = some v ∧ Rep K H v d
  | [], _, _, r, h => by cases r; cases h
  | (g, v) :: fs, _, _, .cons q r, h => by
    have h' : (if f = g then some _ else Hr f _) = some _ := h
    by_cases e : f = g
    · rw [if_pos e] at h'
      cases h'
      refine ⟨v, ?_, q⟩
      rw [List.lookup_cons, e]
      simp
    · rw [if_neg e] at h'
      obtain ⟨u, e1, e2⟩ := uM f r h'
      refine ⟨u, ?_, e2⟩
      rw [List.lookup_cons]
      have : (f == g) = false := by simpa using e
      rw [this]
      exact e1
theorem wI {H : Hp} (f : Str) : ∀ {fs : List (Str × V)} {ds : List D}, BL K H (fs.map (·.2)) ds → Hr f (((fs.map (·.1)).zip ds).map fun p => (PyData.str p.1, p.2)) = none → fs.lookup f = none
  | [], _, r, h => rfl
  | (g, v) :: fs, _, .cons q r, h => by
    have h' : (if f = g then some _ else Hr f _) = none := h
    by_cases e : f = g
    · rw [if_pos e] at h'
      cases h'
    · rw [if_neg e] at h'
      rw [List.lookup_cons]
      have : (f == g) = false := by simpa using e
      rw [this]
      exact wI f r h'
theorem OJ {e : Expr} {te : TE} {fe : PF} {f : Str} {pos : Pos} (hK : X.K = K) (hn : Hu K f) (he : JE X K e te fe) (hb : attributeBase e f X.env (eval e X.env) = eval e X.env := by rfl) :
    JE X K (.Attribute e f pos) (wR K te f) (Kc fe f) := ⟨by subst hK; exact AAd he.pe hb, by
  intro O σ H ρ d Q ok er h q
  obtain ⟨x, e1, h⟩ := Al h
  refine he.pu O σ H ρ x _ ok er e1 fun v H1 s1 r1 => ?_
  cases r1 with
  | obj k hq r z =>
    subst z
    obtain ⟨u, l, ru⟩ := uM f r h
    exact ⟨_, _, _, _, u, rfl, (Gr hq).2, k.cl, hn _ k, l, q u H1 s1 ru⟩
  | dic _ => cases h
  | _ => cases h⟩
end
structure DG (K : Frag) (C : Addr) (m qual : Str) (st : Stmt) (ps : List Str) : Prop where
  ex : ∃ (f : Addr) (fd : FuncData), O3 K m qual st f fd ∧ Meth K C m f ∧ Binds K fd ps []
structure DR (P : Program) (w : World) (K : Frag) (mg : Str → Option Value) (base : Heap) (k : Nat) (C : Addr) (m : Str) (ps : List Str) (sp : Sp) : Prop where
  ex : ∃ (f : Addr) (fd : FuncData), Er P w K mg base Gk k f fd ps sp ∧ Meth K C m f ∧ Binds K fd ps []
section
variable {P : Program} {w : World} {K : Frag} {mg : Str → Option Value} {base : Heap} {C : Addr}
theorem DR.mono {j k : Nat} {m : Str} {ps : List Str} {sp : Sp} (c : DR P w K mg base j C m ps sp) (h : j ≤ k) : DR P w K mg base k C m ps sp := by
  obtain ⟨f, fd, F, r⟩ := c.ex
  exact ⟨f, fd, F.mono h, r⟩
theorem DG.ok {m qual : Str} {st : Stmt} {N ps : List Str} {k : Nat} {sp : Sp} (D : DG K C m qual st ps) (S : Bq N ps (Av st)) (len : ∀ vs H Q E, sp vs H Q E → vs.length = ps.length) (hbody : ∀ (f : Addr) (cdv : Value) (A : Around) (outer : List Env) (s : Shared) (H : Hp) (vs : List V) (Q : VK) (E : XK), Ck k (A.deeper (envOfC qual (Av st) s.heap.objs.size f cdv)) → sp vs H Q E →
      ∃ t, FZ (Fo Gk P w K mg base N qual (Av st) f cdv A outer s H E).Fe (Bk st) t ∧ t { nx := fun _ H' => Q .non H', rt := Q } (start N vs) H) : DR P w K mg base (k + 1) C m ps sp := by
  obtain ⟨f, fd, F, me, b⟩ := D.ex
  exact ⟨f, fd, F.ok S len (fun cdv A outer s H vs Q E hr h => hbody f cdv A outer s H vs Q E hr h), me, b⟩
theorem DG.DP {x qual : Str} {st : Stmt} {N ps : List Str} {k n m : Nat} {F : Ao} {fn : List D → Option D} (hfn : fn = BZ n m F) (D : DG K C x qual st ps) (S : Bq N ps (Av st)) (hn : ps.length = n) (hm : N.length = m) (hb : ∀ (f : Addr) (cdv : Value) (A : Around) (outer : List Env) (s : Shared) (H : Hp) (E : XK), Ck k (A.deeper (envOfC qual (Av st) s.heap.objs.size f cdv)) →
      ∃ t, Gu (Fo Gk P w K mg base N qual (Av st) f cdv A outer s H E).Fe K (Bk st) t F) : DR P w K mg base (k + 1) C x ps (Ay K n fn) := by
  subst hfn hm
  refine D.ok S (fun vs H Q E h => by rw [h.1, hn]) fun f cdv A outer s H vs Q E hr h => ?_
  obtain ⟨t, j⟩ := hb f cdv A outer s H E hr
  refine ⟨t, j.pe, ?_⟩
  obtain ⟨hl, O, ds, d, ok, r, hf, q⟩ := h
  have hl2 : ds.length = n := by rw [← r.length]; exact hl
  unfold BZ at hf
  rw [if_pos hl2] at hf
  obtain ⟨o, e1, hf⟩ := Al hf
  refine j.pu H O (Ai O H) _ H _ o _ ok (RP r N) e1 ?_
  cases o with
  | nx ρ => cases hf; exact fun σ' H' t' => q .non H' t'.same .non
  | rt d' => cases hf; exact fun v H' s' r' => q v H' s' r'
  | rl es =>
    cases hf
    refine fun a xs H' s' hn' ha r' => q (.ref a) H' s' ?_
    exact .lst (Bg.of (by rw [Cj (ok.fresh hn')]; exact ha)) (r'.mono (DQ fun b hb => BK hb))
  | rn ess =>
    cases hf
    refine fun a ps H' s' nd' hn' ha r' => q (.ref a) H' s' ?_
    refine .lst (Bg.of (by rw [Cj (ok.fresh (hn' a Bp))]; exact ha)) (r'.full (DQ fun b hb => Bj hb) fun b hb o e => ?_)
    rw [Cj (ok.fresh (hn' b (BK hb)))]
    exact e
  | rp es d2 =>
    cases hf
    refine fun p a xs v H' s' ha0 hp0 ha hp r' rv => q (.ref p) H' s' ?_
    have sb : Ak (Ai (a :: O) H') (Ai O H') := DQ fun b hb => BK hb
    exact .tup (Dt.of (by rw [Cj (ok.fresh hp0)]; exact hp)) (.cons (.lst (Bg.of (by rw [Cj (ok.fresh ha0)]; exact ha)) (r'.mono sb)) (.cons (rv.mono sb) .nil))
  | ro d2 ρ2 => cases hf
  | bk ρ => cases hf
  | ct ρ => cases hf
theorem DG.Hl {x qual : Str} {st : Stmt} {N ps : List Str} {k n m : Nat} {F : Ao} {fn : List D → Option (List D)} (hfn : fn = Dh n m F) (D : DG K C x qual st ps) (S : Bq N ps (Av st)) (hn : ps.length = n) (hm : N.length = m) (hb : ∀ (f : Addr) (cdv : Value) (A : Around) (outer : List Env) (s : Shared) (H : Hp) (E : XK), Ck k (A.deeper (envOfC qual (Av st) s.heap.objs.size f cdv)) →
      ∃ t, Gu (Fo Gk P w K mg base N qual (Av st) f cdv A outer s H E).Fe K (Bk st) t F) : DR P w K mg base (k + 1) C x ps (CT K n fn) := by
  subst hfn hm
  refine D.ok S (fun vs H Q E h => by rw [h.1, hn]) fun f cdv A outer s H vs Q E hr h => ?_
  obtain ⟨t, j⟩ := hb f cdv A outer s H E hr
  refine ⟨t, j.pe, ?_⟩
  obtain ⟨hl, O, ds, d, ok, r, hf, q⟩ := h
  have hl2 : ds.length = n := by rw [← r.length]; exact hl
  unfold Dh at hf
  rw [if_pos hl2] at hf
  obtain ⟨o, e1, hf⟩ := Al hf
  refine j.pu H O (Ai O H) _ H _ o _ ok (RP r N) e1 ?_
  cases o with
  | rl es => cases hf; exact fun a xs H' s' hn' ha r' => q a xs H' s' hn' ha r'
  | _ => cases hf
end
def Hk (m : Str) : D → Bool
  | .dict (_ :: kvs) => (Hr m kvs).isNone
  | _ => false
def Kl {α : Type} (m : Str) (f : List D → Option α) (o : PF) (r : BW) : Bc → Option α := fun ρ => (o ρ).bind fun d => (r ρ).bind fun ds => if Hk m d = true then f (d :: ds) else none
section
variable {X : Cx} {K : Frag} {k n : Nat} {m : Str} {ps : List Str} {apos pos : Pos} {o e : Expr} {es : List Expr} {to : TE} {fo : PF} {t : TA} {r : BW} {C : Addr}
theorem fL {C' : Addr} (hC : nsIn K mainGlobals "Keeper" = some (some (.ref C))) (k : Lk K C') : C' = C := by
  have := k.ns.symm.trans hC
  cases this
  rfl
theorem lW {H : Hp} {O : List Addr} {v : V} {d : D} (hC : nsIn K mainGlobals "Keeper" = some (some (.ref C))) (r : Rep K (Ai O H) v d) (h : Hk m d = true) : ∃ a dx fs, v = .ref a ∧ H a = some (.ins C dx fs) ∧ fs.lookup m = none := by
  cases r with
  | obj k hq r z =>
    subst z
    cases fL hC k
    refine ⟨_, _, _, rfl, (Gr hq).2, wI m r ?_⟩
    have h' : (Hr m _).isNone = true := h
    exact Option.isNone_iff_eq_none.mp h'
  | dic _ => cases h
  | _ => cases h
theorem oE {f : List D → Option D} (hK : X.K = K) (hC : nsIn K mainGlobals "Keeper" = some (some (.ref C))) (cl : Hc K C) (c : DR X.prog X.w X.K X.mg X.base k C m ps (Ay K n f)) (hf : J4 n f) (hr : Ck k X.A) (ho : JE X K o to fo) {pl : Sem Bool} (ht : eval (.Call (.Attribute o m apos) [] [] pos) X.env = (do
      let ov ← eval o X.env
      standAt apos.atName
      let (f, first) ← holding [ov] (getMethod ov m pl)
      callWith pos f first (backTo pos (starEach [] X.env)) (backToKw pos (keywordEach [] X.env))) := by rfl) :
    JE X K (.Call (.Attribute o m apos) [] [] pos) (RQ C m (Ay K n f) [] E0 to Gd) (Kl m f fo Ag) := ⟨by
  subst hK
  obtain ⟨g, fd, F, me, b⟩ := c.ex
  exact jD ho.pe cl me F hr b .nil RT ht, by
  intro O σ H ρ d Q ok er h q
  obtain ⟨x, e1, h⟩ := Al h
  obtain ⟨ds, e2, h⟩ := Al h
  cases e2
  refine ho.pu O σ H ρ x _ ok er e1 fun v H1 s1 r1 => ?_
  by_cases hm : Hk m x = true
  case neg => rw [if_neg hm] at h; cases h
  rw [if_pos hm] at h
  obtain ⟨a, dx, fs, rfl, ha, hl⟩ := lW hC r1 hm
  refine ⟨a, dx, fs, rfl, ha, hl, ?_⟩
  exact ⟨hf _ _ h, O, [x], d, ok.mono s1, .cons r1 .nil, h, fun v H' s' rv => q v H' (s1.trans s') rv⟩⟩
theorem Xk {f : List D → Option (List D)} (hK : X.K = K) (hC : nsIn K mainGlobals "Keeper" = some (some (.ref C))) (cl : Hc K C) (c : DR X.prog X.w X.K X.mg X.base k C m ps (CT K n f)) (hf : J4 n f) (hr : Ck k X.A) (ho : JE X K o to fo) {pl : Sem Bool} (ht : eval (.Call (.Attribute o m apos) [] [] pos) X.env = (do
      let ov ← eval o X.env
      standAt apos.atName
      let (f, first) ← holding [ov] (getMethod ov m pl)
      callWith pos f first (backTo pos (starEach [] X.env)) (backToKw pos (keywordEach [] X.env))) := by rfl) :
    JL X K (.Call (.Attribute o m apos) [] [] pos) (RQ C m (CT K n f) [] E0 to Gd) (Kl m f fo Ag) := ⟨by
  subst hK
  obtain ⟨g, fd, F, me, b⟩ := c.ex
  exact jD ho.pe cl me F hr b .nil RT ht, by
  intro O σ H ρ d Q ok er h q
  obtain ⟨x, e1, h⟩ := Al h
  obtain ⟨ds, e2, h⟩ := Al h
  cases e2
  refine ho.pu O σ H ρ x _ ok er e1 fun v H1 s1 r1 => ?_
  by_cases hm : Hk m x = true
  case neg => rw [if_neg hm] at h; cases h
  rw [if_pos hm] at h
  obtain ⟨a, dx, fs, rfl, ha, hl⟩ := lW hC r1 hm
  refine ⟨a, dx, fs, rfl, ha, hl, ?_⟩
  exact ⟨hf _ _ h, O, [x], d, ok.mono s1, .cons r1 .nil, h, fun a xs H' s' hn ha' rv => q a xs H' (s1.trans s') (s1.free hn) ha' rv⟩⟩
end
end L2
namespace L2
open PySem PySem.Spec PyProof.Rows
abbrev Ob := List Str × List D
def G4 (f : Str) (d : D) : List Str → List D → Ob
  | g :: ks, e :: ds => if g = f then (g :: ks, d :: ds) else (g :: (G4 f d ks ds).1, e :: (G4 f d ks ds).2)
  | _, _ => ([f], [d])
def Mq : Sl → Option (Addr × Ob)
  | .tr a (.obj ks ds) => some (a, ks, ds)
  | _ => none
theorem Xq {s : Sl} {a : Addr} {o : Ob} (h : Mq s = some (a, o)) : s = .tr a (.obj o.1 o.2) := by
  unfold Mq at h
  split at h
  · cases h; rfl
  · cases h
def Hg (i : Nat) (f : Str) (vf : Am → Option Sl) : Ao := fun ρ => (vf ρ).bind fun s => (Li s).bind fun d => (ρ[i]?).bind fun s' => (Mq s').bind fun q => if q.2.1.length < 1000 then some (.nx (ρ.set i (.tr q.1 (.obj (G4 f d q.2.1 q.2.2).1 (G4 f d q.2.1 q.2.2).2)))) else none
section
variable {K : Frag}
theorem mC {H : Hp} {f : Str} {v : V} {d : D} (r : Rep K H v d) : ∀ {fs : List (Str × V)} {ds : List D}, BL K H (fs.map (·.2)) ds → (FW f v fs).map (·.1) = (G4 f d (fs.map (·.1)) ds).1 ∧ BL K H ((FW f v fs).map (·.2)) (G4 f d (fs.map (·.1)) ds).2
  | [], _, h => by cases h; exact ⟨rfl, .cons r .nil⟩
  | (g, x) :: fs, e0 :: ds, .cons q t => by
    obtain ⟨e1, e2⟩ := mC r t
    by_cases e : g = f
    · have p1 : FW f v ((g, x) :: fs) = (g, v) :: fs := if_pos e
      have p2 : G4 f d (((g, x) :: fs).map (·.1)) (e0 :: ds) = (g :: fs.map (·.1), d :: ds) := if_pos e
      rw [p1, p2]
      exact ⟨rfl, .cons r t⟩
    · have p1 : FW f v ((g, x) :: fs) = (g, x) :: FW f v fs := if_neg e
      have p2 : G4 f d (((g, x) :: fs).map (·.1)) (e0 :: ds) = (g :: (G4 f d (fs.map (·.1)) ds).1, e0 :: (G4 f d (fs.map (·.1)) ds).2) := if_neg e
      rw [p1, p2]
      exact ⟨congrArg (g :: ·) e1, .cons q e2⟩
theorem Slots.change {H H' : Hp} {a : Addr} {c c' : Cn} (hs : ∀ (b : Addr) (o : HO), b ≠ a → H b = some o → H' b = some o) : ∀ {σ : St} {ρ : Am} {O1 : List Addr} {i : Nat} {G1 G2 : Hp}, O1.Nodup → Slots K G1 H σ ρ O1 → Ak G1 G2 → ρ[i]? = some (.tr a c) → Gf K G2 H' a c' → Slots K G2 H' σ (ρ.set i (.tr a c')) O1 := by
  intro σ ρ O1 i G1 G2 nd s
  induction s generalizing i with
  | nil => intro _ h; cases h
  | no s ih =>
    intro g h hc
    cases i with
    | zero => cases h
    | succ i => exact .no (ih nd g h hc)
  | sh r s ih =>
    intro g h hc
    cases i with
    | zero => cases h
    | succ i => exact .sh (r.mono g) (ih nd g h hc)
  | ow e r s ih =>
    intro g h hc
    have nd' := List.nodup_cons.mp nd
    cases i with
    | zero => cases h
    | succ i =>
      obtain ⟨_, q, _⟩ := s.Hf (i := i) h
      exact .ow (hs _ _ (fun z => nd'.1 (by rw [z]; exact q)) e) (r.mono g) (ih nd'.2 g h hc)
  | on e r s ih =>
    intro g h hc
    have nd' := List.nodup_cons.mp nd
    have nd2 := List.nodup_append.mp nd'.2
    cases i with
    | zero => cases h
    | succ i =>
      obtain ⟨_, q, _⟩ := s.Hf (i := i) h
      exact .on (hs _ _ (fun z => nd'.1 (by rw [z]; exact Bj q)) e) (r.mono g fun b hb o e => hs b o (fun z => nd2.2.2 b hb a q z) e) (ih nd2.2.1 g h hc)
  | tr e s ih =>
    intro g h hc
    have nd' := List.nodup_cons.mp nd
    cases i with
    | zero =>
      cases h
      exact .tr hc (s.mono g fun b hb o e => hs b o (fun z => nd'.1 (by rw [← z]; exact hb)) e)
    | succ i =>
      obtain ⟨_, q, _⟩ := s.Hf (i := i) h
      exact .tr (e.mono g fun o e => hs _ o (fun z => nd'.1 (by rw [z]; exact q)) e) (ih nd'.2 g h hc)
theorem gW {O : List Addr} {H H' : Hp} {a : Addr} (ha : a ∈ O) (hs : ∀ (b : Addr) (o : HO), b ≠ a → H b = some o → H' b = some o) : Ak (Ai O H) (Ai O H') := fun b o e => by
  obtain ⟨n1, e⟩ := Gr e
  rw [Cj n1]
  exact hs b o (fun z => n1 (by rw [z]; exact ha)) e
theorem n8 {H0 : Hp} {O0 O : List Addr} {G : Hp} {σ : St} {H H' : Hp} {ρ : Am} {i : Nat} {a : Addr} {c c' : Cn} (hs : ∀ (b : Addr) (o : HO), b ≠ a → H b = some o → H' b = some o) (s0 : Ak H0 H) (n : ∀ b ∈ O, H0 b = none) (nd : O.Nodup) (g : Ak G (Ai (O0 ++ O) H)) (sl : Slots K (Ai (O0 ++ O) H) H σ ρ O) (hi : ρ[i]? = some (.tr a c)) (hc : Gf K (Ai (O0 ++ O) H') H' a c') : By K H0 O0 G σ H' (ρ.set i (.tr a c')) := by
  obtain ⟨h1, h2, h3⟩ := sl.Hf hi
  have big := gW (H' := H') (List.mem_append_right O0 h2) hs
  exact ⟨O, fun b o e => hs b o (fun z => by rw [z, n a h2] at e; cases e) (s0 b o e), n, nd, g.trans big, Slots.change hs nd sl big hi hc⟩
end
section
variable {X : Cx} {K : Frag}
theorem Yh (i : Nat) {o value : Expr} {f : Str} {pos pos' : Pos} {tv : TE} {vf : Am → Option Sl} (hK : X.K = K) (hn : Hu K f) (ho : PE X o (Dm i)) (hv : PE X value tv) (pv : Ga K tv vf) (hs : swapsWith value (some (.Attribute o f pos')) pos.line X.env = pure false := by rfl) : JS X K (.Assign [.Attribute o f pos'] value pos) (VJ K (Dm i) tv f) (Hg i f vf) := ⟨by subst hK; exact AKs ho hv hs, by
  intro H0 O0 G σ H ρ o E ok t hf q
  obtain ⟨s, e1, hf⟩ := Al hf
  obtain ⟨d, e2, hf⟩ := Al hf
  obtain ⟨s', e3, hf⟩ := Al hf
  obtain ⟨⟨a, ks, ds⟩, e4, hf⟩ := Al hf
  have es : s = .sh d := by
    unfold Li at e2
    split at e2
    · cases e2; rfl
    · cases e2
  subst es
  have e5 := Xq e4
  subst e5
  have hf : (if ks.length < 1000 then some (Out.nx (ρ.set i (.tr a (.obj (G4 f d ks ds).1 (G4 f d ks ds).2)))) else none) = some o := hf
  by_cases hl : ks.length < 1000
  case neg => rw [if_neg hl] at hf; cases hf
  rw [if_pos hl] at hf
  cases hf
  refine pv H0 O0 G σ H ρ (.sh d) _ ok t e1 fun v H1 s1 sv => ?_
  obtain ⟨O, P, s0, n, nd, g, sl, hp, r⟩ := sv.ex
  subst hp
  obtain ⟨h1, h2, C, dx, fs, kk, ha, hks, hr⟩ := sl.Hf e3
  refine ⟨_, h1, a, C, dx, fs, rfl, ha, kk.cl, hn C kk, ?_, ?_⟩
  · rw [← List.length_map (f := (·.1)), hks]
    exact hl
  · obtain ⟨p1, p2⟩ := mC (f := f) r hr
    rw [hks] at p1 p2
    have eq : Ai (O0 ++ O) (upd H1 a (.ins C dx (FW f v fs))) = Ai (O0 ++ O) H1 := Ih (Bj h2)
    exact q σ _ (n8 (fun b o nb e => by rw [Ba nb]; exact e) s0 n nd g sl e3 ⟨C, dx, _, kk, Dg, p1, by rw [eq]; exact p2⟩)⟩
end
end L2
namespace L2
open PySem PySem.Spec PyProof.Rows
def UG (a : Addr) : Out → Option (D × Ob)
  | .ro d ρ => (ρ[0]?).bind fun s => (Mq s).bind fun q => if q.1 = a then some (d, q.2) else none
  | .nx ρ => (ρ[0]?).bind fun s => (Mq s).bind fun q => if q.1 = a then some (.none, q.2) else none
  | _ => none
def startM (m : Nat) (a : Addr) (o : Ob) (as : List D) : Am := .tr a (.obj o.1 o.2) :: (as.map .sh ++ List.replicate (m - (as.length + 1)) .no)
abbrev MF := Addr → Ob → List D → Option (D × Ob)
def runM (n m : Nat) (F : Ao) : MF := fun a o as => if as.length + 1 = n then (F (startM m a o as)).bind (UG a) else none
def GR (K : Frag) (n : Nat) (f : MF) : Sp := fun vs H Q _ => ∃ (a : Addr) (us : List V) (O : List Addr) (o : Ob) (as : List D) (r : D × Ob), vs = .ref a :: us ∧ vs.length = n ∧ CP O H ∧ a ∉ O ∧ Gf K (Ai (a :: O) H) H a (.obj o.1 o.2) ∧ BL K (Ai (a :: O) H) us as ∧ f a o as = some r ∧
  ∀ v H', (∀ (b : Addr) (o : HO), b ≠ a → H b = some o → H' b = some o) → Gf K (Ai (a :: O) H') H' a (.obj r.2.1 r.2.2) → Rep K (Ai (a :: O) H') v r.1 → Q v H'
def S7 (n : Nat) (f : MF) : Prop := ∀ a o as r, f a o as = some r → as.length + 1 = n
theorem WR (n m : Nat) (F : Ao) : S7 n (runM n m F) := fun a o as r h => by
  unfold runM at h
  by_cases hc : as.length + 1 = n
  · exact hc
  · rw [if_neg hc] at h; cases h
theorem ALN {O : List Addr} {a b : Addr} : b ∈ a :: O ↔ b ∈ O ++ [a] := by
  simp [or_comm]
section
variable {P : Program} {w : World} {K : Frag} {mg : Str → Option Value} {base : Heap} {C : Addr}
theorem AMK {H : Hp} {O : List Addr} {a : Addr} {o : Ob} {us : List V} {as : List D} (na : a ∉ O) (h : Gf K (Ai (a :: O) H) H a (.obj o.1 o.2)) (r : BL K (Ai (a :: O) H) us as) (N : List Str) :
    By K (Ai [a] H) O (Ai (O ++ [a]) H) (start N (.ref a :: us)) H (startM N.length a o as) := by
  have sb : Ak (Ai (a :: O) H) (Ai (O ++ [a]) H) := DQ fun b hb => ALN.mpr hb
  refine ⟨[a], Dj, (fun b hb => by rw [List.mem_singleton.mp hb]; exact Rq (by simp)), by simp, Ak.refl _, ?_⟩
  unfold start startM
  have hl := r.length
  have e : (V.ref a :: us).map some ++ List.replicate (N.length - (V.ref a :: us).length) none = some (.ref a) :: (us.map some ++ List.replicate (N.length - (as.length + 1)) none) := by
    rw [List.map_cons, List.length_cons, hl]
    rfl
  rw [e]
  exact .tr (h.mono sb fun _ z => z) (zE (r.mono sb) _)
theorem AMv {a : Addr} {o : Out} {r : D × Ob} (h : UG a o = some r) : (∃ ρ, o = .ro r.1 ρ ∧ ρ[0]? = some (.tr a (.obj r.2.1 r.2.2))) ∨ (∃ ρ, o = .nx ρ ∧ r.1 = .none ∧ ρ[0]? = some (.tr a (.obj r.2.1 r.2.2))) := by
  cases o with
  | ro d ρ =>
    left
    obtain ⟨s, e1, h⟩ := Al h
    obtain ⟨q, e2, h⟩ := Al h
    by_cases hc : q.1 = a
    · have h : (if q.1 = a then some (d, q.2) else none) = some r := h
      rw [if_pos hc] at h
      cases h
      have := Xq (a := q.1) (o := q.2) e2
      subst this
      exact ⟨ρ, rfl, by rw [e1, hc]⟩
    · have h : (if q.1 = a then some (d, q.2) else none) = some r := h
      rw [if_neg hc] at h
      cases h
  | nx ρ =>
    right
    obtain ⟨s, e1, h⟩ := Al h
    obtain ⟨q, e2, h⟩ := Al h
    by_cases hc : q.1 = a
    · have h : (if q.1 = a then some (PyData.none, q.2) else none) = some r := h
      rw [if_pos hc] at h
      cases h
      have := Xq (a := q.1) (o := q.2) e2
      subst this
      exact ⟨ρ, rfl, rfl, by rw [e1, hc]⟩
    · have h : (if q.1 = a then some (PyData.none, q.2) else none) = some r := h
      rw [if_neg hc] at h
      cases h
  | _ => cases h
theorem DG.kI {x qual : Str} {st : Stmt} {N ps : List Str} {k n m : Nat} {F : Ao} {fn : MF} (hfn : fn = runM n m F) (D : DG K C x qual st ps) (S : Bq N ps (Av st)) (hn : ps.length = n) (hm : N.length = m) (hb : ∀ (f : Addr) (cdv : Value) (A : Around) (outer : List Env) (s : Shared) (H : Hp) (E : XK), Ck k (A.deeper (envOfC qual (Av st) s.heap.objs.size f cdv)) →
      ∃ t, Gu (Fo Gk P w K mg base N qual (Av st) f cdv A outer s H E).Fe K (Bk st) t F) : DR P w K mg base (k + 1) C x ps (GR K n fn) := by
  subst hfn hm
  refine D.ok S (fun vs H Q E h => by obtain ⟨_, _, _, _, _, _, _, hl, _⟩ := h; rw [hl, hn]) fun f cdv A outer s H vs Q E hr h => ?_
  obtain ⟨t, j⟩ := hb f cdv A outer s H E hr
  refine ⟨t, j.pe, ?_⟩
  obtain ⟨a, us, O, o, as, r, rfl, hl, ok, na, held, rep, hf, q⟩ := h
  unfold runM at hf
  by_cases hc : as.length + 1 = n
  case neg => rw [if_neg hc] at hf; cases hf
  rw [if_pos hc] at hf
  obtain ⟨out, e1, hf⟩ := Al hf
  have ok0 : CP O (Ai [a] H) := fun b hb => by
    obtain ⟨ob, e⟩ := ok b hb
    exact ⟨ob, by rw [Cj fun z => na (by rw [← List.mem_singleton.mp z]; exact hb)]; exact e⟩
  refine j.pu (Ai [a] H) O (Ai (O ++ [a]) H) _ H _ out _ ok0 (AMK na held rep N) e1 ?_
  have keep : ∀ {H' : Hp}, Ak (Ai [a] H) H' → ∀ (b : Addr) (o : HO), b ≠ a → H b = some o → H' b = some o := fun s0 b o nb e => s0 b o (by rw [Cj fun z => nb (List.mem_singleton.mp z)]; exact e)
  rcases AMv hf with ⟨ρ, rfl, h0⟩ | ⟨ρ, rfl, hr1, h0⟩
  · intro v σ H' sv
    obtain ⟨O2, P2, s0, n2, nd, g, sl, hp, rv⟩ := sv.ex
    subst hp
    obtain ⟨h1, h2, h3⟩ := sl.Hf h0
    have sb : Ak (Ai (O ++ ([] ++ O2)) H') (Ai (a :: O) H') := DQ fun b hb => by
      rcases List.mem_cons.mp hb with rfl | hb
      · exact Bj h2
      · exact Cy hb
    exact q v H' (keep s0) (h3.mono sb fun _ z => z) (rv.mono sb)
  · intro σ H' sv
    obtain ⟨O2, s0, n2, nd, g, sl⟩ := sv.ex
    obtain ⟨h1, h2, h3⟩ := sl.Hf h0
    have sb : Ak (Ai (O ++ O2) H') (Ai (a :: O) H') := DQ fun b hb => by
      rcases List.mem_cons.mp hb with rfl | hb
      · exact Bj h2
      · exact Cy hb
    exact q .non H' (keep s0) (h3.mono sb fun _ z => z) (by rw [hr1]; exact .non)
end
def mL (K : Frag) (te : TE) (wf : Am → Option (D × Am)) : Prop := ∀ (H0 : Hp) (O0 : List Addr) (G : Hp) (σ : St) (H : Hp) (ρ ρ' : Am) (d : D) (Q : VK), CP O0 H0 → By K H0 O0 G σ H ρ → wf ρ = some (d, ρ') →
  (∀ v H', GQ K H0 O0 G σ H' ρ' v (.sh d) → Q v H') → te σ H Q
structure JM (X : Cx) (K : Frag) (e : Expr) (te : TE) (wf : Am → Option (D × Am)) : Prop where
  pe : PE X e te
  pu : mL K te wf
def XQ (i : Nat) (m : Str) (f : MF) (r : BW) : Am → Option (D × Am) := fun ρ => (ρ[i]?).bind fun s => (Mq s).bind fun q => (r (masked ρ)).bind fun as => if q.2.1.contains m = true then none else (f q.1 q.2 as).bind fun x => some (x.1, ρ.set i (.tr q.1 (.obj x.2.1 x.2.2)))
def fX (wf : Am → Option (D × Am)) : Ao := fun ρ => (wf ρ).bind fun x => some (.nx x.2)
section
variable {X : Cx} {K : Frag} {C : Addr}
theorem ALf {fs : List (Str × V)} {m : Str} : (fs.map (·.1)).contains m = false → fs.lookup m = none := by
  induction fs with
  | nil => intro _; rfl
  | cons p fs ih =>
    intro h
    rw [List.map_cons, List.contains_cons, Bool.or_eq_false_iff] at h
    rw [List.lookup_cons, h.1]
    exact ih h.2
theorem AK9 {i n : Nat} {m : Str} {f : MF} {r : BW} {ta : TA} (hC : nsIn K mainGlobals "Keeper" = some (some (.ref C))) (hf : S7 n f) (ha : We K ta r) : mL K (RQ C m (GR K n f) [] E0 (Dm i) ta) (XQ i m f r) := by
  intro H0 O0 G σ H ρ ρ' d Q ok t h q
  obtain ⟨s, e1, hA⟩ := Al h
  obtain ⟨⟨a, o⟩, e2, hB⟩ := Al hA
  obtain ⟨as, e3, hD⟩ := Al hB
  have es := Xq e2
  rw [es] at e1
  clear h hA hB e2 es
  have h : (if o.1.contains m = true then none else (f a o as).bind fun x => some (x.1, ρ.set i (.tr a (.obj x.2.1 x.2.2)))) = some (d, ρ') := hD
  clear hD
  by_cases hm : o.1.contains m = true
  case pos => rw [if_pos hm] at h; cases h
  rw [if_neg hm] at h
  obtain ⟨x, e4, h⟩ := Al h
  cases h
  obtain ⟨O, s0, n0, nd, g, sl⟩ := t.ex
  obtain ⟨h1, h2, C', dx, fs, kk, hh, hks, hr⟩ := sl.Hf e1
  cases fL hC kk
  have okA := HW ok s0 sl
  refine ⟨_, h1, a, dx, fs, rfl, hh, ALf (by rw [hks]; simpa using hm), ?_⟩
  refine ha (O0 ++ O) σ H (masked ρ) as _ okA sl.mask e3 fun vs H1 s1 r1 => ?_
  rw [List.append_nil]
  have sl1 := sl.mono (Ds s1 : Ak (Ai (O0 ++ O) H) (Ai (O0 ++ O) H1)) fun b _ o e => s1 b o e
  have set : ∀ b, b ∈ a :: (O0 ++ O).filter (fun b => decide (b ≠ a)) ↔ b ∈ O0 ++ O := fun b => by
    constructor
    · intro hb
      rcases List.mem_cons.mp hb with rfl | hb
      · exact Bj h2
      · exact (List.mem_filter.mp hb).1
    · intro hb
      by_cases e : b = a
      · rw [e]; exact Bp
      · exact BK (List.mem_filter.mpr ⟨hb, decide_eq_true e⟩)
  have to : ∀ {Hx : Hp}, Ak (Ai (O0 ++ O) Hx) (Ai (a :: (O0 ++ O).filter (fun b => decide (b ≠ a))) Hx) := DQ fun b hb => (set b).mp hb
  have bk : ∀ {Hx : Hp}, Ak (Ai (a :: (O0 ++ O).filter (fun b => decide (b ≠ a))) Hx) (Ai (O0 ++ O) Hx) := DQ fun b hb => (set b).mpr hb
  obtain ⟨h1', h2', held⟩ := sl1.Hf e1
  refine ⟨a, vs, (O0 ++ O).filter (fun b => decide (b ≠ a)), o, as, x, rfl, by rw [List.length_cons, r1.length]; exact hf _ _ _ _ e4, fun b hb => (okA.mono s1) b (List.mem_filter.mp hb).1, (fun z => by have := of_decide_eq_true (List.mem_filter.mp z).2; exact this rfl), held.mono to fun _ z => z, r1.mono to, e4, ?_⟩
  intro v H' keep vU rv
  have s01 := s0.trans s1
  have g1 : Ak G (Ai (O0 ++ O) H1) := g.trans (Ds s1)
  have st := n8 keep s01 n0 nd g1 sl1 e1 (vU.mono bk fun _ z => z)
  refine q v H' ?_
  have big := gW (H' := H') (List.mem_append_right O0 h2) keep
  refine ⟨O, [], fun b o e => keep b o (fun z => by rw [z, n0 a h2] at e; cases e) (s01 b o e), n0, nd, ?_, ?_, rfl, ?_⟩
  · rw [List.nil_append]; exact g1.trans big
  · rw [List.nil_append]; exact Slots.change keep nd sl1 big e1 (vU.mono bk fun _ z => z)
  · rw [List.nil_append]; exact rv.mono bk
theorem iR {i n k : Nat} {m : Str} {f : MF} {r : BW} {ta : TA} {ps : List Str} {o e : Expr} {es : List Expr} {apos pos : Pos} (hK : X.K = K) (hC : nsIn K mainGlobals "Keeper" = some (some (.ref C))) (cl : Hc K C) (c : DR X.prog X.w X.K X.mg X.base k C m ps (GR K n f)) (hf : S7 n f) (hr : Ck k X.A) (ho : PE X o (Dm i)) (ha : JA X K (e :: es) ta r) {pl : Sem Bool} (hst : starEach (e :: es) X.env = (false, eval e X.env) :: starEach es X.env := by rfl) (hpl : (backTo pos (starEach es X.env)).any (·.1) = false := by rfl) (ht : eval (.Call (.Attribute o m apos) (e :: es) [] pos) X.env = (do
      let ov ← eval o X.env
      standAt apos.atName
      let (f, first) ← holding [ov] (getMethod ov m pl)
      callWith pos f first (backTo pos (starEach (e :: es) X.env)) (backToKw pos (keywordEach [] X.env))) := by rfl) :
    JM X K (.Call (.Attribute o m apos) (e :: es) [] pos) (RQ C m (GR K n f) [] E0 (Dm i) ta) (XQ i m f r) := ⟨by
  subst hK
  obtain ⟨g, fd, F, me, b⟩ := c.ex
  exact AFV ho cl me F hr b .nil RT ha.pe hst hpl ht, AK9 hC hf ha.pu⟩
theorem mJ {e : Expr} {te : TE} {wf : Am → Option (D × Am)} {pos : Pos} (h : JM X K e te wf) (hs : swapsWith e none pos.line X.env = pure false := by rfl) : JS X K (.Expr e pos) (Mi te) (fX wf) := ⟨UT h.pe hs, by
  intro H0 O0 G σ H ρ o E ok t hf q
  obtain ⟨⟨d, ρ'⟩, e1, hf⟩ := Al hf
  cases hf
  exact h.pu H0 O0 G σ H ρ ρ' d _ ok t e1 fun v H' sv => q σ H' sv.str⟩
end
open Classical in
noncomputable def Hi (f : MF) (as : List D) : Option D := if h : ∃ o : Ob, ∀ a, f a ([], []) as = some (.none, o) then some (.dict (Dq h.choose.1 h.choose.2)) else none
theorem mk_eq {f : MF} {as : List D} {o : Ob} (h : ∀ a, f a ([], []) as = some (.none, o)) : Hi f as = some (.dict (Dq o.1 o.2)) := by
  have hx : ∃ o : Ob, ∀ a, f a ([], []) as = some (.none, o) := ⟨o, h⟩
  unfold Hi
  rw [dif_pos hx]
  have := hx.choose_spec 0
  rw [h 0] at this
  have e : o = hx.choose := by injection this with this; injection this
  rw [← e]
theorem gH {f : MF} {as : List D} {d : D} (h : Hi f as = some d) : ∃ o : Ob, (∀ a, f a ([], []) as = some (.none, o)) ∧ d = .dict (Dq o.1 o.2) := by
  unfold Hi at h
  by_cases hx : ∃ o : Ob, ∀ a, f a ([], []) as = some (.none, o)
  · rw [dif_pos hx] at h
    cases h
    exact ⟨_, hx.choose_spec, rfl⟩
  · rw [dif_neg hx] at h
    cases h
noncomputable def WX (f : MF) (r : BW) : PF := fun ρ => (r ρ).bind (Hi f)
section
variable {X : Cx} {K : Frag} {C : Addr}
theorem AJv {n : Nat} {f : MF} {r : BW} {ta : TA} (kk : Lk K C) (hf : S7 n f) (ha : We K ta r) : Gj K (dR C (GR K n f) [] E0 ta) (WX f r) := by
  intro O σ H ρ d Q ok er h q
  obtain ⟨as, e1, h⟩ := Al h
  obtain ⟨o, ho, rfl⟩ := gH h
  refine ha O σ H ρ as _ ok er e1 fun vs H1 s1 r1 => ?_
  intro x dx hx hdx ne
  rw [List.append_nil]
  have ok1 := ok.mono s1
  have nx : x ∉ O := ok1.fresh hx
  have sA : Ak H1 (upd (upd H1 dx (.own x)) x (.ins C dx [])) := fun b o e => by
    rw [Ba (De e hx), Ba (De e hdx)]
    exact e
  have sh : Ak (Ai O H1) (Ai (x :: O) (upd (upd H1 dx (.own x)) x (.ins C dx []))) := fun b o e => by
    obtain ⟨n1, e⟩ := Gr e
    have nb : b ≠ x := De e hx
    rw [Cj (by simp [nb, n1])]
    exact sA b o e
  refine ⟨x, vs, O, ([], []), as, (.none, o), rfl, by rw [List.length_cons, r1.length]; exact hf _ _ _ _ (ho x), ok1.mono sA, nx, ⟨C, dx, [], kk, Dg, rfl, .nil⟩, r1.mono sh, ho x, ?_⟩
  intro v H' keep held rv
  cases rv
  refine ⟨rfl, ?_⟩
  have sB : Ak H1 H' := fun b o e => keep b o (De e hx) (sA b o e)
  obtain ⟨C', dx', fs, kk', hh, hks, hr⟩ := held
  refine q _ H' (s1.trans sB) (.obj kk' (by rw [Cj nx]; exact hh) (hr.mono (DQ fun b hb => BK hb)) (by rw [hks]))
theorem AAg {n k : Nat} {f : MF} {r : BW} {ta : TA} {x : Str} {ps : List Str} {p pos : Pos} {e : Expr} {es : List Expr} (kk : Lk K C) (hK : X.K = K) (mk : makesIn K C = true) (kp : keepIn K (.ref C) = true) (c : DR X.prog X.w X.K X.mg X.base k C "__init__" ps (GR K n f)) (hf : S7 n f) (hr : Ck (k + 1) X.A) (hg : Gl X x) (hm : X.mg x = some (.ref C)) (ha : JA X K (e :: es) ta r) (hdb : (x == ("__debug__" : Str)) = false := by decide) (he : starEach (e :: es) X.env = (false, eval e X.env) :: starEach es X.env := by rfl) (hpl : (backTo pos (starEach es X.env)).any (·.1) = false := by rfl) :
    JE X K (.Call (.Name x p) (e :: es) [] pos) (dR C (GR K n f) [] E0 ta) (WX f r) := ⟨by
  subst hK
  obtain ⟨g, fd, F, me, b⟩ := c.ex
  exact ANu ⟨mk, me.at_, me.fn, kp⟩ F hr hg hm b .nil RT ha.pe hdb he hpl, AJv kk hf ha.pu⟩
end
end L2
namespace L2
open PySem PySem.Spec PyProof.Rows PySem.W
abbrev T1 := Ends → (Addr → Hp → Prop) → St → Hp → Prop
structure cA (X : Cx) (K : Frag) (mg : Str → Option Value) (c : Stmt) (t : T1) (F : Ao) (G : Am → Option Str) : Prop where
  wp : ∀ (pins : List (Addr × Obj)) (s : Shared) (σ : St) (H : Hp) (D : Ends) (R : Addr → Hp → Prop), Inv X pins σ H s → t D R σ H → wpAny (model X.prog X.w) X.A (exec c X.env) (SP X pins D) (XE X pins σ R) s
  pu : ∀ (H0 : Hp) (O0 : List Addr) (Gh : Hp) (σ : St) (H : Hp) (ρ : Am) (o : Out) (E : Ends) (R : Addr → Hp → Prop), CP O0 H0 → By K H0 O0 Gh σ H ρ → F ρ = some o → YZ K H0 O0 Gh E o → t E R σ H
  px : ∀ (H0 : Hp) (O0 : List Addr) (Gh : Hp) (σ : St) (H : Hp) (ρ : Am) (x : Str) (E : Ends) (R : Addr → Hp → Prop), CP O0 H0 → By K H0 O0 Gh σ H ρ → G ρ = some x → (∀ H', Ak H H' → ∀ C, mg x = some (.ref C) → R C H') → t E R σ H
structure eQ (K : Frag) (mg : Str → Option Value) (x1 x2 : Str) (C1 C2 : Addr) (ds : List Addr) : Prop where
  m1 : mg x1 = some (.ref C1)
  m2 : mg x2 = some (.ref C2)
  a1 : kitOne K (.ref C1) (.ref C1) = some true
  a2 : kitOne K (.ref C1) (.ref C2) = some false
  a3 : kitAny K (.ref C1) (ds.map Value.ref) = some false
  a4 : kitOne K (.ref C1) (.type "ValueError") = some true
  b1 : kitOne K (.ref C2) (.ref C1) = some false
  b2 : kitOne K (.ref C2) (.ref C2) = some true
  b3 : kitAny K (.ref C2) (ds.map Value.ref) = some false
  b4 : kitOne K (.ref C2) (.type "ValueError") = some true
  dl : ds.length ≤ 1000
def Yv (x1 x2 x : Str) : Option (List D) := if x = x1 then some [.bool true, .bool false, .bool false, .bool true] else if x = x2 then some [.bool false, .bool true, .bool false, .bool true] else none
def SM (iK j : Nat) (x1 x2 : Str) (F : Ao) (G : Am → Option Str) : Ao := fun ρ => if Xb ρ[j]? = true ∧ iK ≠ j ∧ iK < ρ.length then
    (match F ρ with
      | some o => some o
      | none => (G ρ).bind fun x => (Yv x1 x2 x).bind fun es => some (.nx (ρ.set iK (.sh (.list es)))))
  else none
theorem AKF {iK j : Nat} {X : Cx} {K : Frag} {mg : Str → Option Value} {x1 x2 : Str} {C1 C2 : Addr} {ds : List Addr} {c : Stmt} {t : T1} {F : Ao} {Gx : Am → Option Str} (kc : eQ K mg x1 x2 C1 C2 ds) (h1 : cA X K mg c t F Gx) :
    Jo K (eG t j [C1, C2] (Ul K iK j C1 C2 ds)) (SM iK j x1 x2 F Gx) := by
  intro H0 O0 G σ H ρ o E ok st hf q
  unfold SM at hf
  by_cases hcc : Xb ρ[j]? = true ∧ iK ≠ j ∧ iK < ρ.length
  case neg => rw [if_neg hcc] at hf; cases hf
  rw [if_pos hcc] at hf
  obtain ⟨hj', hne, hik⟩ := hcc
  have hj := ALz hj'
  cases hF : F ρ with
  | some o1 =>
    rw [hF] at hf
    cases hf
    exact h1.pu H0 O0 G σ H ρ o E _ ok st hF q
  | none =>
    rw [hF] at hf
    obtain ⟨x, ex, hf⟩ := Al hf
    obtain ⟨es, ek, hf⟩ := Al hf
    cases hf
    refine h1.px H0 O0 G σ H ρ x E _ ok st ex fun H4 s4 C hC => ?_
    obtain ⟨O, s0, nn, nd, g, sl⟩ := (st.grow s4).ex
    have okA := HW ok s0 sl
    have hlen := sl.len
    have hjl : j < ρ.length := (List.getElem?_eq_some_iff.mp hj).1
    have key : ∀ (r1 r2 : Bool) (a : Addr), kitOne K (.ref C) (.ref C1) = some r1 → kitOne K (.ref C) (.ref C2) = some r2 → kitAny K (.ref C) (ds.map Value.ref) = some false → kitOne K (.ref C) (.type "ValueError") = some true → es = [.bool r1, .bool r2, .bool false, .bool true] → H4 a = none →
        Ul K iK j C1 C2 ds C (Tn j E) (σ.set j (some (.ref a))) (upd H4 a (.ext (Ij a C))) := fun r1 r2 a k1 k2 k3 k4 he ha => by
      have sa : Ak H4 (upd H4 a (.ext (Ij a C))) := Ak.new ha
      refine AGO k1 k2 k3 k4 kc.dl hne (List.getElem?_set_self (by rw [hlen]; exact hjl)) (by rw [List.length_set, hlen]; exact hik) Dg fun p H' s' hp hH' => ?_
      have XC : Ak H4 H' := sa.trans s'
      have hpn : H4 p = none := sa.free hp
      have na : p ∉ O0 ++ O := okA.fresh hpn
      have rp : Rep K (Ai (O0 ++ ([] ++ O)) H') (.ref p) (.list es) := by
        subst he
        exact .lst (Bg.of (by rw [List.nil_append, Cj na]; exact hH')) (.cons (.bl r1) (.cons (.bl r2) (.cons (.bl false) (.cons (.bl true) .nil))))
      have sv : GQ K H0 O0 G (σ.set j (some (.ref a))) H' ρ (.ref p) (.sh (.list es)) :=
        ⟨O, [], s0.trans XC, nn, nd, g.trans (Ds XC), (sl.mono (Ds XC) fun a _ o e => XC a o e).WL hj, rfl, rp⟩
      exact q _ H' ((sv.set iK).WL (by rw [List.getElem?_set_ne hne]; exact hj))
    unfold Yv at ek
    split at ek
    · rename_i hx
      subst hx
      cases ek
      have e := hC.symm.trans kc.m1
      cases e
      exact ⟨.head _, fun a ha => key true false a kc.a1 kc.a2 kc.a3 kc.a4 rfl ha⟩
    · split at ek
      · rename_i hx
        subst hx
        cases ek
        have e := hC.symm.trans kc.m2
        cases e
        exact ⟨.tail _ (.head _), fun a ha => key false true a kc.b1 kc.b2 kc.b3 kc.b4 rfl ha⟩
      · cases ek
theorem ADx (iK j : Nat) {X : Cx} {K : Frag} {mg : Str → Option Value} {x1 x2 x nm : Str} {C1 C2 Dc : Addr} {ds : List Addr} {c : Stmt} {t : T1} {F : Ao} {Gx : Am → Option Str} {np hpos pos : Pos} {b₀ : Stmt} {JC : List Stmt} (kc : eQ K mg x1 x2 C1 C2 ds) (S6 : X.stack = X.env :: X.outer) (hfm : X.env.frame = some X.env.locals) (hN : X.N.Nodup) (hi : X.N[j]? = some nm) (hl : X.env.kindOf nm = some .local) (hg : Gl X x) (hm : X.mg x = some (.ref Dc)) (hD : excIn X.K Dc HS "ValueError.__new__" = true) (hsub : ∀ C ∈ [C1, C2], mroIn X.K C (.ref Dc) = some true) (h1 : cA X K mg c t F Gx) (hb : ∀ (a C : Addr), C ∈ [C1, C2] → FZ (X.PN a fun _ _ => False) (b₀ :: JC) (Ul K iK j C1 C2 ds C)) (hd : (x == ("__debug__" : Str)) = false := by decide) (hf : X.fn nm = true ∨ X.env.scope.names.lookup nm = some .local := by first | exact .inl rfl | exact .inr rfl | assumption) :
    JS X K (.Try [c] [.ExceptHandler (some (.Name x np)) (some nm) (b₀ :: JC) hpos] [] [] pos) (eG t j [C1, C2] (Ul K iK j C1 C2 ds)) (SM iK j x1 x2 F Gx) :=
  ⟨ALu S6 hfm hN hi hl hg hm hD hsub h1.wp hb hd hf, AKF kc h1⟩
structure K4 (P : Program) (w : World) (K : Frag) (mg : Str → Option Value) (base : Heap) (k : Nat) (C : Addr) (m : Str) (ps : List Str) (sp : Sp) : Prop where
  ex : ∃ (f : Addr) (fd : FuncData), Er P w K mg base (Kv P w) k f fd ps sp ∧ Meth K C m f ∧ Binds K fd ps []
section
variable {P : Program} {w : World} {K : Frag} {mg : Str → Option Value} {base : Heap} {C : Addr}
theorem K4.mono {j k : Nat} {m : Str} {ps : List Str} {sp : Sp} (c : K4 P w K mg base j C m ps sp) (h : j ≤ k) : K4 P w K mg base k C m ps sp := by
  obtain ⟨f, fd, F, r⟩ := c.ex
  exact ⟨f, fd, F.mono h, r⟩
theorem DG.raises {x qual : Str} {st : Stmt} {N ps : List Str} {k n m : Nat} {G : GJ} {g : List D → Option Str} (hfn : g = VD n m G) (D : DG K C x qual st ps) (S : Bq N ps (Av st)) (hn : ps.length = n) (hm : N.length = m) (hb : ∀ (f : Addr) (cdv : Value) (A : Around) (outer : List Env) (s : Shared) (H : Hp) (E : XK), Ck k (A.deeper (envOfC qual (Av st) s.heap.objs.size f cdv)) →
      ∃ t F, Nz (Fo (Kv P w) P w K mg base N qual (Av st) f cdv A outer s H E) K (fun y H' => ∀ C, mg y = some (.ref C) → E (.ref C) none H') (Bk st) t F G) : K4 P w K mg base (k + 1) C x ps (Q9 K n mg g) := by
  subst hfn hm
  obtain ⟨f, fd, Fu, me, b⟩ := D.ex
  obtain ⟨oc, od, kV, doc, pm, an, cdv, ct, osl, rfl, lk, hcd⟩ := Fu.ex
  refine ⟨f, _, sV lk hcd S (fun vs H Q E h => by rw [h.1, hn]) fun A outer s H vs Q E hr hsp => ?_, me, b⟩
  obtain ⟨t, F, j⟩ := hb f cdv A outer s H E hr
  refine ⟨t, j.pe, ?_⟩
  obtain ⟨hl, O, ds, C, ok, r, hf, q⟩ := hsp
  have hl2 : ds.length = n := by rw [← r.length]; exact hl
  unfold VD at hf
  rw [if_pos hl2] at hf
  exact j.px H O (Ai O H) _ H _ C _ ok (RP r N) hf fun σ' H' ρ' s' => q H' s'.same
end
def wO (C : Addr) (sp spx : Sp) (t : TA) : T1 := fun D R σ H => t σ H fun vs H1 =>
  (∀ x dx, H1 x = none → H1 dx = none → dx ≠ x → sp (.ref x :: vs) (upd (upd H1 dx (.own x)) x (.ins C dx [])) (fun v H2 => v = .non ∧ D.nx σ H2) E0) ∨
  (∀ x dx, H1 x = none → H1 dx = none → dx ≠ x → spx (.ref x :: vs) (upd (upd H1 dx (.own x)) x (.ins C dx [])) (fun _ _ => False) (m9 R))
section
variable {X : Cx} {K : Frag} {C : Addr} {k : Nat} {x : Str} {ps : List Str} {sp spx : Sp} {e : Expr} {es : List Expr} {t : TA} {p pos epos : Pos}
theorem AIL (c : DR X.prog X.w X.K X.mg X.base k C "__init__" ps sp) (cx : K4 X.prog X.w X.K X.mg X.base k C "__init__" ps spx) (mk : makesIn X.K C = true) (kp : keepIn X.K (.ref C) = true) (hex : X.ex = []) (hr : Ck (k + 1) X.A) (hg : Gl X x) (hm : X.mg x = some (.ref C)) (ha : PA X.Fe (e :: es) t) (hdb : (x == ("__debug__" : Str)) = false := by decide)
    (he : starEach (e :: es) X.env = (false, eval e X.env) :: starEach es X.env := by rfl) (hpl : (backTo pos (starEach es X.env)).any (·.1) = false := by rfl) (hs : swapsWith (.Call (.Name x p) (e :: es) [] pos) none epos.line X.env = pure false := by rfl)
    (pins : List (Addr × Obj)) (s : Shared) (σ : St) (H : Hp) (D : Ends) (R : Addr → Hp → Prop) (I : Inv X pins σ H s) (h : wO C sp spx t D R σ H) :
    wpAny (model X.prog X.w) X.A (exec (.Expr (.Call (.Name x p) (e :: es) [] pos) epos) X.env) (SP X pins D) (XE X pins σ R) s := by
  obtain ⟨f, fd, F, me, b⟩ := c.ex
  obtain ⟨f', fd', F', me', b'⟩ := cx.ex
  have e1 : f = f' := by
    have := me.at_.symm.trans me'.at_
    cases this
    rfl
  subst e1
  refine wpAny_Expr_any (wpAny_Call_Name_kw (Rp I hg hm ?_ hdb)) I.quiet hs
  refine PySem.W.callWith_K (h₀ := X.base) I.ok.mod.kin kp (wpAny_mono (ha pos pins s σ H _ (I.Hz _) h) (fun us s1 q => ?_) fun _ _ z => z.elim) he hpl
  obtain ⟨vs, H1, I1, r, q⟩ := q
  have I1' : Inv X pins σ H1 s1 := I1.JD
  refine ⟨I1'.DW, ?_⟩
  rcases q with q | q
  · have := t6 (X := X.Fe) (dvs := []) (ds := []) (E := E0) (Q := fun _ H2 => D.nx σ H2) ⟨mk, me.at_, me.fn, kp⟩ F hr b .nil RT (I1'.Hz _) r (fun x dx h1 h2 h3 => by rw [List.append_nil]; exact q x dx h1 h2 h3)
    exact wpAny_mono this (fun v s2 ⟨y, H2, I2, _, q2⟩ => ⟨σ, H2, I2.JD, q2⟩) fun _ _ z => z.elim
  · have hq := q (s1.heap.objs.size + 1) s1.heap.objs.size (I1'.hok.fresh (Nat.le_succ _)) (I1'.hok.fresh (Nat.le_refl _)) (Nat.ne_of_lt (Nat.lt_succ_self _))
    have I2 := Inv.made (C := C) I1'
    have r2 : Vals (V.ref (s1.heap.objs.size + 1) :: vs) (Value.ref (s1.heap.objs.size + 1) :: us) := .cons rfl r
    have hl : (Value.ref (s1.heap.objs.size + 1) :: us ++ []).length = ps.length := by
      have e := r2.length
      rw [F'.len _ _ _ _ hq] at e
      rw [List.append_nil]
      exact e.symm
    have hbt := b' _ (Value.ref (s1.heap.objs.size + 1) :: us) I2.DW hl
    rw [List.append_nil] at hbt
    refine wpAny_call (wU (f := f) I1'.DW mk me.at_ (beq_iff_eq.mp me.fn) (codeAny_mono (F'.run _ X.stack _ _ ⟨Value.ref (s1.heap.objs.size + 1) :: us, []⟩ (Value.ref (s1.heap.objs.size + 1) :: us) _ _ (m9 R) (hr.make C us [])
      (I2.gR.make C us []) hbt r2 hq) fun r s' hq' => ?_))
    cases r with
    | error e =>
      obtain ⟨a, cls, H', rfl, ⟨C', hC, hR⟩, hx⟩ := I2.flew hq' hex
      exact ⟨a, C', H', rfl, hx C' hC, hR⟩
    | ok fl =>
      cases fl with
      | ret u =>
        obtain ⟨_, _, _, _, _, _, _, z⟩ := hq'
        exact z.elim
      | next => exact False.elim hq'
      | brk => exact False.elim hq'
      | cont => exact False.elim hq'
def Ng : D := .dict (Dq [] [])
noncomputable def YB (f : MF) (r : BW) : Ao := fun ρ => (WX f r (masked ρ)).bind fun _ => some (.nx ρ)
def YF (g : List D → Option Str) (r : BW) : Am → Option Str := fun ρ => (r (masked ρ)).bind fun as => g (Ng :: as)
theorem AKU {n : Nat} {mg : Str → Option Value} {f : MF} {g : List D → Option Str} {r : BW} {ta : TA} (kk : Lk K C) (hK : X.K = K) (hmg : X.mg = mg) (c : DR X.prog X.w X.K X.mg X.base k C "__init__" ps (GR K n f)) (cx : K4 X.prog X.w X.K X.mg X.base k C "__init__" ps (Q9 K n mg g)) (hf : S7 n f) (hg' : J4 n g) (mk : makesIn K C = true) (kp : keepIn K (.ref C) = true) (hex : X.ex = []) (hr : Ck (k + 1) X.A) (hg : Gl X x) (hm : X.mg x = some (.ref C)) (ha : JA X.Fe K (e :: es) ta r) (hdb : (x == ("__debug__" : Str)) = false := by decide) (he : starEach (e :: es) X.env = (false, eval e X.env) :: starEach es X.env := by rfl) (hpl : (backTo pos (starEach es X.env)).any (·.1) = false := by rfl) (hs : swapsWith (.Call (.Name x p) (e :: es) [] pos) none epos.line X.env = pure false := by rfl) :
    cA X K mg (.Expr (.Call (.Name x p) (e :: es) [] pos) epos) (wO C (GR K n f) (Q9 K n mg g) ta) (YB f r) (YF g r) := ⟨by
  subst hK
  exact AIL c cx mk kp hex hr hg hm ha.pe hdb he hpl hs, by
  intro H0 O0 Gh σ H ρ o E R ok st hF q
  obtain ⟨d, hd, hF⟩ := Al hF
  cases hF
  obtain ⟨O, s0, nn, nd, gg, sl⟩ := st.ex
  have okA := HW ok s0 sl
  obtain ⟨as, e1, h⟩ := Al hd
  obtain ⟨ob, ho, rfl⟩ := gH h
  refine ha.pu (O0 ++ O) σ H (masked ρ) as _ okA sl.mask e1 fun vs H1 s1 r1 => .inl ?_
  intro x dx hx hdx ne
  have ok1 := okA.mono s1
  have nx : x ∉ O0 ++ O := ok1.fresh hx
  have sA : Ak H1 (upd (upd H1 dx (.own x)) x (.ins C dx [])) := fun b o e => by
    rw [Ba (De e hx), Ba (De e hdx)]
    exact e
  have sh : Ak (Ai (O0 ++ O) H1) (Ai (x :: (O0 ++ O)) (upd (upd H1 dx (.own x)) x (.ins C dx []))) := fun b o e => by
    obtain ⟨n1, e⟩ := Gr e
    have nb : b ≠ x := De e hx
    rw [Cj (by
      intro z
      rcases List.mem_cons.mp z with z | z
      · exact nb z
      · exact n1 z)]
    exact sA b o e
  refine ⟨x, vs, O0 ++ O, ([], []), as, (.none, ob), rfl, by rw [List.length_cons, r1.length]; exact hf _ _ _ _ (ho x), ok1.mono sA, nx, ⟨C, dx, [], kk, Dg, rfl, .nil⟩, r1.mono sh, ho x, ?_⟩
  intro v H' keep held rv
  cases rv
  refine ⟨rfl, q σ H' (st.grow ?_)⟩
  exact s1.trans fun b o e => keep b o (De e hx) (sA b o e), by
  intro H0 O0 Gh σ H ρ y E R ok st hG q
  obtain ⟨O, s0, nn, nd, gg, sl⟩ := st.ex
  have okA := HW ok s0 sl
  obtain ⟨as, e1, h⟩ := Al hG
  refine ha.pu (O0 ++ O) σ H (masked ρ) as _ okA sl.mask e1 fun vs H1 s1 r1 => .inr ?_
  intro x dx hx hdx ne
  have ok1 := okA.mono s1
  have nx : x ∉ O0 ++ O := ok1.fresh hx
  have sA : Ak H1 (upd (upd H1 dx (.own x)) x (.ins C dx [])) := fun b o e => by
    rw [Ba (De e hx), Ba (De e hdx)]
    exact e
  refine ⟨by rw [List.length_cons, r1.length]; exact hg' _ _ h, O0 ++ O, Ng :: as, y, ok1.mono sA, .cons (.obj kk (by rw [Cj nx]; exact Dg) .nil rfl) (r1.Ai sA), h, fun H' s' C' hC' => ⟨C', rfl, q H' (s1.trans (sA.trans s')) C' hC'⟩⟩⟩
end
end L2
namespace L2
open PySem PySem.Spec PyProof.Rows
def clsAt : Stmt → Nat → Stmt
  | .ClassDef _ _ _ body _ _ _ _ _ _ _, j => body.getD j (.Pass ⟨0, 0, 0, 0⟩)
  | s, _ => s
def YK (f : Es) : Am → Option Sl := fun ρ => (f (full ρ)).bind fun dss => if dss.all Fp = true then some (.sh (.list (dss.map .list))) else none
section
variable {X : Cx} {K : Frag}
theorem yE {O0 O : List Addr} {H : Hp} (h : ∀ a ∈ O, ∃ o, H a = some o ∧ VH o = true) : ∀ {ps : List Addr} {dss : List (List D)}, Inner K (Ai O0 H) H ps dss → dss.all Fp = true → (∀ b ∈ ps, b ∉ O0 ++ O) → BL K (Ai (O0 ++ O) H) (ps.map V.ref) (dss.map .list)
  | _, _, .nil, _, _ => .nil
  | p :: ps, ds :: dss, .cons e r t, f, n => by
    have f' := Bool.and_eq_true_iff.mp (show (Fp ds && dss.all Fp) = true from f)
    exact .cons (.lst (Bg.of (by rw [Cj (n p Bp)]; exact e)) (Vv h r f'.1)) (yE h t f'.2 fun b hb => n b (BK hb))
theorem AMM {te : TE} {fl : Es} (h : X6 K te fl) : Ga K te (YK fl) := by
  intro H0 O0 G σ H ρ s Q ok t hf q
  obtain ⟨dss, e1, hf⟩ := Al hf
  by_cases hc : dss.all Fp = true
  case neg => rw [if_neg hc] at hf; cases hf
  rw [if_pos hc] at hf
  cases hf
  have ⟨o1, er⟩ := t.Hj ok
  refine h O0 σ H (full ρ) dss _ o1 er e1 fun a ps H' s' nd hn ha inn => ?_
  obtain ⟨O, s0, n, ndO, g, sl⟩ := t.ex
  have okA := HW ok s0 sl
  have nn : ∀ b ∈ a :: ps, b ∉ O0 ++ O := fun b hb => okA.fresh (hn b hb)
  have sl' := sl.mono (Ds s' : Ak (Ai (O0 ++ O) H) (Ai (O0 ++ O) H')) fun a _ o e => s' a o e
  refine q _ H' s' ⟨O, [], s0.trans s', n, ndO, (by rw [List.nil_append]; exact g.trans (Ds s')), (by rw [List.nil_append]; exact sl'), rfl, ?_⟩
  rw [List.nil_append]
  exact .lst (Bg.of (by rw [Cj (nn a Bp)]; exact ha)) (yE (fun b hb => sl'.mem b hb) (inn.mono (DQ fun b hb => Bj hb) fun _ _ _ e => e) hc fun b hb => nn b (BK hb))
theorem Ut (i : Nat) {o value : Expr} {f : Str} {pos pos' : Pos} {tv : TE} {fv : PF} (hK : X.K = K) (hn : Hu K f) (ho : PE X o (Dm i)) (hv : JE X K value tv fv) (hs : swapsWith value (some (.Attribute o f pos')) pos.line X.env = pure false := by rfl) :
    JS X K (.Assign [.Attribute o f pos'] value pos) (VJ K (Dm i) tv f) (Hg i f (vS fv)) := Yh i hK hn ho hv.pe (NK hv.pu) hs
theorem lD (i : Nat) {o value : Expr} {f : Str} {pos pos' : Pos} {tv : TE} {fv : PF} (hK : X.K = K) (hn : Hu K f) (ho : PE X o (Dm i)) (hv : JE X K value tv fv) (hs : swapsWith value (some (.Attribute o f pos')) pos.line X.env = pure false := by rfl) :
    JS X K (.Assign [.Attribute o f pos'] value pos) (VJ K (Dm i) tv f) (Hg i f (vF fv)) := Yh i hK hn ho hv.pe (AGk hv.pu) hs
theorem AJn (i : Nat) {o value : Expr} {f : Str} {pos pos' : Pos} {tv : TE} {fv : Es} (hK : X.K = K) (hn : Hu K f) (ho : PE X o (Dm i)) (hv : JN X K value tv fv) (hs : swapsWith value (some (.Attribute o f pos')) pos.line X.env = pure false := by rfl) :
    JS X K (.Assign [.Attribute o f pos'] value pos) (VJ K (Dm i) tv f) (Hg i f (YK fv)) := Yh i hK hn ho hv.pe (AMM hv.pu) hs
theorem Qi {C f : Addr} {x qual : Str} {st : Stmt} {ps : List Str} {oc : Value} {od an : Option Addr} {osl : Array (Option Value)} {kV doc pm cdv ct : Value} (hb : ∀ (kV doc pm : Value) (an : Option Addr) (cdv ct : Value) (us : List Value), us.length = ps.length → bindArgs (fnOf x qual (Bw st) (Bk st) (Av st) .none kV doc pm an cdv ct) ⟨us, []⟩ = pure (ps.zip us)) (a : findIn K (.ref C) x = some (some (.ref f))) (fn : PySem.W.isFn K (.ref f) = true) (l : K.lookup f = some ⟨oc, od, .func (fnOf x qual (Bw st) (Bk st) (Av st) .none kV doc pm an cdv ct), osl⟩) (c : codeIn K cdv qual = true) (k : keepIn K (.ref f) = true) : DG K C x qual st ps := by
  have F := lN (st := st) l c k
  exact ⟨f, _, F, ⟨a, fn, k⟩, F.binds hb⟩
theorem NT {C : Addr} {f : Str} (hC : nsIn K mainGlobals "Keeper" = some (some (.ref C))) (h : findIn K (.ref C) f = some none) : Hu K f := fun C' k => by
  cases fL hC k
  exact h
end
end L2
namespace L2
open PySem PySem.Spec PyProof.Rows
section
variable {K : Frag} {G H : Hp}
theorem Inner.setAt {b : Addr} {xs : List V} {ds : List D} (hb : H b = some (.lst xs)) (r : BL K G xs ds) : ∀ {ps : List Addr} {dss : List (List D)} (u : Nat), Inner K G H ps dss → Inner K G H (ps.set u b) (dss.set u ds)
  | _, _, _, .nil => .nil
  | _, _, 0, .cons e q t => .cons hb r t
  | _, _, u + 1, .cons e q t => .cons e q (Inner.setAt hb r u t)
theorem vJ {b : Addr} : ∀ {ps : List Addr} (u : Nat), ps.Nodup → b ∉ ps → (ps.set u b).Nodup
  | [], _, _, _ => by simp
  | p :: ps, 0, nd, nb => by
    rw [List.set_cons_zero]
    exact List.nodup_cons.mpr ⟨fun z => nb (BK z), (List.nodup_cons.mp nd).2⟩
  | p :: ps, u + 1, nd, nb => by
    rw [List.set_cons_succ]
    have nd' := List.nodup_cons.mp nd
    refine List.nodup_cons.mpr ⟨fun z => ?_, vJ u nd'.2 fun z => nb (BK z)⟩
    rcases List.mem_or_eq_of_mem_set z with z | z
    · exact nd'.1 z
    · exact nb (by rw [← z]; exact Bp)
theorem Slots.ANJ {a b : Addr} {ps : List Addr} {xs : List V} {ds : List D} {u : Nat} {dss : List (List D)} (hb : H b = some (.lst xs)) (r : BL K G xs ds) (ha : H a = some (.lst (ps.map V.ref))) : ∀ {σ : St} {ρ : Am} {O : List Addr} {i : Nat}, O.Nodup → b ∉ O → b ≠ a → Slots K G H σ ρ O → ρ[i]? = some (.on dss) → σ[i]? = some (some (.ref a)) →
    ∃ O2, (∀ c ∈ O2, c = b ∨ c ∈ O) ∧ a ∈ O2 ∧ O2.Nodup ∧ Slots K G (upd H a (.lst ((ps.set u b).map V.ref))) σ (ρ.set i (.on (dss.set u ds))) O2 := by
  intro σ ρ O i nd nb nba s
  have frame : ∀ {σ : St} {ρ : Am} {O : List Addr}, Slots K G H σ ρ O → a ∉ O → Slots K G (upd H a (.lst ((ps.set u b).map V.ref))) σ ρ O := fun s n => s.mono (Ak.refl _) fun c hc o e => by rw [Ba fun z => n (by rw [← z]; exact hc)]; exact e
  induction s generalizing i with
  | nil => intro h; cases h
  | no s ih =>
    intro h h2
    cases i with
    | zero => cases h
    | succ i =>
      obtain ⟨O2, q1, q2, q3, q4⟩ := ih (i := i) nd nb h h2
      exact ⟨O2, q1, q2, q3, .no q4⟩
  | sh q s ih =>
    intro h h2
    cases i with
    | zero => cases h
    | succ i =>
      obtain ⟨O2, q1, q2, q3, q4⟩ := ih (i := i) nd nb h h2
      exact ⟨O2, q1, q2, q3, .sh q q4⟩
  | @ow c ys es σ' ρ' O' e q s ih =>
    intro h h2
    have nd' := List.nodup_cons.mp nd
    cases i with
    | zero => cases h
    | succ i =>
      obtain ⟨a', ps', g1, g2, g3, g4, g5⟩ := s.Fw (i := i) nd'.2 h
      have h2' : σ'[i]? = some (some (V.ref a)) := h2
      rw [g1] at h2'
      cases h2'
      have nac : c ≠ a := fun z => nd'.1 (by rw [z]; exact g2 a Bp)
      obtain ⟨O2, q1, q2, q3, q4⟩ := ih (i := i) nd'.2 (fun z => nb (BK z)) h h2
      refine ⟨c :: O2, fun d hd => ?_, BK q2, List.nodup_cons.mpr ⟨fun z => ?_, q3⟩, .ow (by rw [Ba nac]; exact e) q q4⟩
      · rcases List.mem_cons.mp hd with rfl | hd
        · exact .inr Bp
        · exact (q1 d hd).imp id fun z => BK z
      · rcases q1 _ z with z | z
        · exact nb (by rw [← z]; exact Bp)
        · exact nd'.1 z
  | @tr c c0 σ' ρ' O' e s ih =>
    intro h h2
    have nd' := List.nodup_cons.mp nd
    cases i with
    | zero => cases h
    | succ i =>
      obtain ⟨a', ps', g1, g2, g3, g4, g5⟩ := s.Fw (i := i) nd'.2 h
      have h2' : σ'[i]? = some (some (V.ref a)) := h2
      rw [g1] at h2'
      cases h2'
      have nac : c ≠ a := fun z => nd'.1 (by rw [z]; exact g2 a Bp)
      obtain ⟨O2, q1, q2, q3, q4⟩ := ih (i := i) nd'.2 (fun z => nb (BK z)) h h2
      refine ⟨c :: O2, fun d hd => ?_, BK q2, List.nodup_cons.mpr ⟨fun z => ?_, q3⟩, .tr (e.mono (Ak.refl _) fun o e => by rw [Ba nac]; exact e) q4⟩
      · rcases List.mem_cons.mp hd with rfl | hd
        · exact .inr Bp
        · exact (q1 d hd).imp id fun z => BK z
      · rcases q1 _ z with z | z
        · exact nb (by rw [← z]; exact Bp)
        · exact nd'.1 z
  | @on c cs css σ' ρ' O' e q s ih =>
    intro h h2
    have nd' := List.nodup_cons.mp nd
    have nd2 := List.nodup_append.mp nd'.2
    cases i with
    | zero =>
      cases h2
      cases h
      cases Uw e ha
      have nps : b ∉ ps := fun z => nb (BK (Cy z))
      have nO : b ∉ O' := fun z => nb (BK (Bj z))
      refine ⟨_, fun d hd => ?_, Bp, List.nodup_cons.mpr ⟨fun z => ?_, List.nodup_append.mpr ⟨vJ u nd2.1 nps, nd2.2.1, fun x hx y hy hxy => ?_⟩⟩, .on Dg ((Inner.setAt hb r u q).mono (Ak.refl _) fun d hd o e => ?_) (frame s fun z => nd'.1 (Bj z))⟩
      · rcases List.mem_cons.mp hd with rfl | hd
        · exact .inr Bp
        · rcases List.mem_append.mp hd with hd | hd
          · rcases List.mem_or_eq_of_mem_set hd with hd | hd
            · exact .inr (BK (Cy hd))
            · exact .inl hd
          · exact .inr (BK (Bj hd))
      · rcases List.mem_append.mp z with z | z
        · rcases List.mem_or_eq_of_mem_set z with z | z
          · exact nd'.1 (Cy z)
          · exact nba z.symm
        · exact nd'.1 (Bj z)
      · rcases List.mem_or_eq_of_mem_set hx with hx | hx
        · exact nd2.2.2 x hx y hy hxy
        · exact nO (by rw [← hx, hxy]; exact hy)
      · rcases List.mem_or_eq_of_mem_set hd with hd | hd
        · rw [Ba fun z => nd'.1 (by rw [← z]; exact Cy hd)]
          exact e
        · rw [Ba fun z => nba (by rw [← hd, z])]
          exact e
    | succ i =>
      obtain ⟨a', ps', g1, g2, g3, g4, g5⟩ := s.Fw (i := i) nd2.2.1 h
      have h2' : σ'[i]? = some (some (V.ref a)) := h2
      rw [g1] at h2'
      cases h2'
      have haO : a ∈ O' := g2 a Bp
      have nac : c ≠ a := fun z => nd'.1 (by rw [z]; exact Bj haO)
      obtain ⟨O2, q1, q2, q3, q4⟩ := ih (i := i) nd2.2.1 (fun z => nb (BK (Bj z))) h h2
      refine ⟨c :: (cs ++ O2), fun d hd => ?_, BK (Bj q2), List.nodup_cons.mpr ⟨fun z => ?_, List.nodup_append.mpr ⟨nd2.1, q3, fun x hx y hy hxy => ?_⟩⟩, .on (by rw [Ba nac]; exact e) (q.mono (Ak.refl _) fun d hd o e => by rw [Ba fun z => nd2.2.2 d hd a haO z]; exact e) q4⟩
      · rcases List.mem_cons.mp hd with rfl | hd
        · exact .inr Bp
        · rcases List.mem_append.mp hd with hd | hd
          · exact .inr (BK (Cy hd))
          · exact (q1 d hd).imp id fun z => BK (Bj z)
      · rcases List.mem_append.mp z with z | z
        · exact nd'.1 (Cy z)
        · rcases q1 _ z with z | z
          · exact nb (by rw [← z]; exact Bp)
          · exact nd'.1 (Bj z)
      · rcases q1 y hy with z | z
        · exact nb (by rw [← z, ← hxy]; exact BK (Cy hx))
        · exact nd2.2.2 x hx y z hxy
end
def Wf : Sl → Option (List D)
  | .ow ds => some ds
  | _ => none
theorem AEg {s : Sl} {ds : List D} (h : Wf s = some ds) : s = .ow ds := by
  unfold Wf at h
  split at h
  · cases h; rfl
  · cases h
def Iv (i : Nat) (fi : PF) (vf : Am → Option Sl) : Ao := fun ρ => (vf ρ).bind fun s => (Wf s).bind fun ds => (fi (full ρ)).bind fun kd => (Jd kd).bind fun k => (ρ[i]?).bind fun s' => (Jy s').bind fun dss => (Dz dss.length k).bind fun u => some (.nx (ρ.set i (.on (dss.set u ds))))
def Q7 (i : Nat) (fi : PF) (f : PF) : Ao := fun ρ => (fi (full ρ)).bind fun kd => (Jd kd).bind fun k => (ρ[i]?).bind fun s => (Jy s).bind fun dss => (Dz dss.length k).bind fun u => (dss[u]?).bind fun ds => (f (masked ρ)).bind fun d => if fits ds.length = true then some (.nx (ρ.set i (.on (dss.set u (ds ++ [d]))))) else none
def RG (i : Nat) (fi : PF) : Ao := fun ρ => (fi (full ρ)).bind fun kd => (Jd kd).bind fun k => (ρ[i]?).bind fun s => (Jy s).bind fun dss => (Dz dss.length k).bind fun u => (dss[u]?).bind fun ds => if ds = [] then none else some (.nx (ρ.set i (.on (dss.set u ds.dropLast))))
section
variable {X : Cx} {K : Frag} {pos : Pos}
theorem wC (i : Nat) {x : Str} {e ix : Expr} {te ti : TE} {fi : PF} {vf : Am → Option Sl} {p spos pos : Pos} (he : PE X e te) (pv : Ga K te vf) (hi : JE X K ix ti fi) (hN : X.N[i]? = some x := by rfl) (hv : Fx X.env.scope x := by first | exact Or.inl rfl | exact Or.inr (Or.inl rfl) | exact Or.inr (Or.inr rfl)) (hd : (x == ("__debug__" : Str)) = false := by decide)
    (hcd : (x == ("__classdict__" : Str)) = false := by decide)
    (ha : ∀ v, assign (.Subscript (.Name x p) ix spos) X.env v = (do
      let ov ← holding [v] (eval (.Name x p) X.env)
      let iv ← holding [v, ov] (eval ix X.env)
      standAt spos
      holding [v, ov, iv] (setItem ov iv v)
      release [v, ov, iv] []) := by intro _; rfl)
    (hs : swapsWithSole [.Subscript (.Name x p) ix spos] e pos.line X.env = pure false := by rfl) (hw : swappedStores [.Subscript (.Name x p) ix spos] e X.env = pure none := by rfl)
    (h1 : (assignEach [.Subscript (.Name x p) ix spos] X.env).map (·.2) = [assign (.Subscript (.Name x p) ix spos) X.env] := by rfl) :
    JS X K (.Assign [.Subscript (.Name x p) ix spos] e pos) (Ff te (K9 (Dm i) ti Ka)) (Iv i fi vf) := ⟨Wt he (Yg (JH hN hv hd hcd) hi.pe set_list ha) hs hw h1, by
  intro H0 O0 G σ H ρ o E ok s hf q
  obtain ⟨sl, e1, hf1⟩ := Al hf
  obtain ⟨ds, e2, hf2⟩ := Al hf1
  obtain ⟨kd, e5, hf3⟩ := Al hf2
  obtain ⟨k, e6, hf4⟩ := Al hf3
  obtain ⟨sl2, e3, hf5⟩ := Al hf4
  obtain ⟨dss, e4, hf6⟩ := Al hf5
  obtain ⟨u, e9, hf7⟩ := Al hf6
  rw [AEg e2] at e1
  rw [Uo e4] at e3
  cases hf7
  refine pv H0 O0 G σ H ρ _ _ ok s e1 fun v H' s' sv => ?_
  obtain ⟨O, P, s0, n, nd, g, sl3, b, xs, rfl, rfl, nb, h0, hb, rb⟩ := sv.ex
  obtain ⟨a, ps, g1, g2, g3, g4, g5⟩ := sl3.Fw nd e3
  refine ⟨_, g1, ?_⟩
  have ok' : CP O0 H' := ok.mono s0
  have Hj : Dl K (Ai O0 H') σ (full ρ) := sl3.full (DQ fun b hb => Cy hb) fun c hc o e => by
    rw [Cj (ok.fresh (n c hc))]
    exact e
  refine hi.pu O0 σ H' (full ρ) kd _ ok' Hj e5 fun vi H2 s2 ri => ?_
  have hvi : vi = .int k := by
    cases ri with
    | int i => cases e6; rfl
    | _ => cases e6
  subst hvi
  have ha2 := s2 _ _ g4
  refine ⟨a, _, k, u, rfl, rfl, ha2, by rw [List.length_map, g5.len]; exact e9, ?_⟩
  have dW : Ak (Ai (O0 ++ ([b] ++ O)) H') (Ai (O0 ++ ([b] ++ O)) H2) := Ds s2
  have nba : b ≠ a := fun z => nb (by rw [z]; exact g2 a Bp)
  obtain ⟨O2, q1, q2, q3, q4⟩ := Slots.ANJ (K := K) (G := Ai (O0 ++ ([b] ++ O)) H2) (u := u) (s2 _ _ hb) (rb.mono dW) ha2 nd nb nba (sl3.mono dW fun c _ o e => s2 c o e) e3 g1
  have ABL : (ps.map V.ref).set u (.ref b) = (ps.set u b).map V.ref := by rw [List.map_set]
  rw [ABL]
  have rF : Ak (Ai (O0 ++ ([b] ++ O)) H2) (Ai (O0 ++ O2) (upd H2 a (.lst ((ps.set u b).map V.ref)))) := fun c o e => by
    obtain ⟨n1, e⟩ := Gr e
    have nc : c ∉ O0 ++ O2 := fun z => n1 ((List.mem_append.mp z).elim (fun w => Cy w) fun w => Bj ((q1 c w).elim (fun z => by rw [z]; simp) fun z => by simp [z]))
    rw [Cj nc, Ba fun z => nc (by rw [z]; exact Bj q2)]
    exact e
  refine q σ _ ⟨O2, fun c o e => ?_, fun c hc => ?_, q3, (g.trans dW).trans rF, q4.mono rF fun _ _ _ e => e⟩
  · rw [Ba (De e (n a (g2 a Bp)))]
    exact s2 c o (s0 c o e)
  · rcases q1 c hc with rfl | z
    · exact h0
    · exact n c z⟩
theorem ABz (i : Nat) {x : Str} {e ix : Expr} {te ti : TE} {fi : PF} {f : BW} {p spos pos : Pos} (he : JL X K e te f) (hi : JE X K ix ti fi) (hN : X.N[i]? = some x := by rfl) (hv : Fx X.env.scope x := by first | exact Or.inl rfl | exact Or.inr (Or.inl rfl) | exact Or.inr (Or.inr rfl)) (hd : (x == ("__debug__" : Str)) = false := by decide)
    (hcd : (x == ("__classdict__" : Str)) = false := by decide)
    (ha : ∀ v, assign (.Subscript (.Name x p) ix spos) X.env v = (do
      let ov ← holding [v] (eval (.Name x p) X.env)
      let iv ← holding [v, ov] (eval ix X.env)
      standAt spos
      holding [v, ov, iv] (setItem ov iv v)
      release [v, ov, iv] []) := by intro _; rfl)
    (hs : swapsWithSole [.Subscript (.Name x p) ix spos] e pos.line X.env = pure false := by rfl) (hw : swappedStores [.Subscript (.Name x p) ix spos] e X.env = pure none := by rfl)
    (h1 : (assignEach [.Subscript (.Name x p) ix spos] X.env).map (·.2) = [assign (.Subscript (.Name x p) ix spos) X.env] := by rfl) :
    JS X K (.Assign [.Subscript (.Name x p) ix spos] e pos) (Ff te (K9 (Dm i) ti Ka)) (Iv i fi (vL f)) := wC i he.pe (WT he.pu) hi hN hv hd hcd ha hs hw h1
theorem cI (i : Nat) {x : Str} {e ix : Expr} {te ti : TE} {fi : PF} {f : BW} {p spos pos : Pos} (he : JL X K e te f) (hi : JE X K ix ti fi) (hN : X.N[i]? = some x := by rfl) (hv : Fx X.env.scope x := by first | exact Or.inl rfl | exact Or.inr (Or.inl rfl) | exact Or.inr (Or.inr rfl)) (hd : (x == ("__debug__" : Str)) = false := by decide)
    (hcd : (x == ("__classdict__" : Str)) = false := by decide)
    (ha : ∀ v, assign (.Subscript (.Name x p) ix spos) X.env v = (do
      let ov ← holding [v] (eval (.Name x p) X.env)
      let iv ← holding [v, ov] (eval ix X.env)
      standAt spos
      holding [v, ov, iv] (setItem ov iv v)
      release [v, ov, iv] []) := by intro _; rfl)
    (hs : swapsWithSole [.Subscript (.Name x p) ix spos] e pos.line X.env = pure false := by rfl) (hw : swappedStores [.Subscript (.Name x p) ix spos] e X.env = pure none := by rfl)
    (h1 : (assignEach [.Subscript (.Name x p) ix spos] X.env).map (·.2) = [assign (.Subscript (.Name x p) ix spos) X.env] := by rfl) :
    JS X K (.Assign [.Subscript (.Name x p) ix spos] e pos) (Ff te (K9 (Dm i) ti Ka)) (Iv i fi (Kd f)) := wC i he.pe (AHr he.pu) hi hN hv hd hcd ha hs hw h1
theorem ADp (i : Nat) {x : Str} {ix e : Expr} {ti te : TE} {fi f : PF} {p Dv apos cpos : Pos} (hi : JE X K ix ti fi) (he : JE X K e te f) (hK : X.K = K) (hsx : N5 ix) (hN : X.N[i]? = some x := by rfl) (hv : Fx X.env.scope x := by first | exact Or.inl rfl | exact Or.inr (Or.inl rfl) | exact Or.inr (Or.inr rfl)) (hd : (x == ("__debug__" : Str)) = false := by decide)
    (hcd : (x == ("__classdict__" : Str)) = false := by decide) (hbase : attributeBase (.Subscript (.Name x p) ix Dv) "append" X.env (eval (.Subscript (.Name x p) ix Dv) X.env) = eval (.Subscript (.Name x p) ix Dv) X.env := by rfl)
    (hfew : ((backTo cpos (starEach [e] X.env)).all (fun x => !x.1) && (backToKw cpos (keywordEach [] X.env)).all (fun x => x.1.isSome)
      && decide ([e].length + ([] : List Keyword).length + (if ([] : List Keyword).isEmpty then 0 else 1) < 30)) = true := by rfl)
    (hline : (apos.endLine == cpos.line) = true := by rfl) (hs : starEach [e] X.env = (false, eval e X.env) :: starEach [] X.env := by rfl) (hplain : (backTo cpos (starEach [] X.env)).any (·.1) = false := by rfl)
    (hs2 : swapsWith (.Call (.Attribute (.Subscript (.Name x p) ix Dv) "append" apos) [e] [] cpos) none pos.line X.env = pure false := by rfl) :
    JS X K (.Expr (.Call (.Attribute (.Subscript (.Name x p) ix Dv) "append" apos) [e] [] cpos) pos) (Mi (Rn K "list" Vf (HB (Lx K) (Dm i) ti) (GD te Gd))) (Q7 i fi f) := ⟨by
  subst hK
  exact UT (YT PySem.F.plainAttrs_list PySem.F.slot_list_append PySem.F.type_list_append fH (Us Vr (JH hN hv hd hcd) hi.pe hsx) (Eo he.pe HY hs) hbase hfew hline hs hplain) hs2, by
  intro H0 O0 G σ H ρ o E ok s hf q
  obtain ⟨kd, e5, hf1⟩ := Al hf
  obtain ⟨k, e6, hf2⟩ := Al hf1
  obtain ⟨sl2, e3, hf3⟩ := Al hf2
  obtain ⟨dss, e4, hf4⟩ := Al hf3
  obtain ⟨u, e9, hf5⟩ := Al hf4
  obtain ⟨ds, e10, hf6⟩ := Al hf5
  obtain ⟨d, e11, hf7⟩ := Al hf6
  rw [Uo e4] at e3
  by_cases hfit : fits ds.length = true
  case neg => rw [if_neg hfit] at hf7; cases hf7
  rw [if_pos hfit] at hf7
  cases hf7
  obtain ⟨a, ps, h1, h2, h3⟩ := s.Fw e3
  refine ⟨_, h1, ?_⟩
  refine s.M7 hi.pu ok e5 fun vi H2 s2 t2 ri => ?_
  have h22 := s2 _ _ h2
  have hvi : vi = .int k := by
    cases ri with
    | int i => cases e6; rfl
    | _ => cases e6
  subst hvi
  obtain ⟨O, s0, n, nd, g, sl⟩ := t2.ex
  obtain ⟨a', ps', g1, g2, g3, g4, g5⟩ := sl.Fw nd e3
  rw [h1] at g1
  cases g1
  cases Uw h22 g4
  obtain ⟨p', xs, q1, q2, q3⟩ := g5.get e10
  have hp : p' ∈ O := g2 p' (BK (List.mem_of_getElem? q1))
  refine .inl ⟨a, _, k, .ref p', rfl, rfl, Bg.of h22, ?_, .inl ⟨rfl, _, Bg.of q2⟩, ?_⟩
  · unfold L2.Cw
    rw [List.length_map, h3, e9]
    show (ps.map V.ref)[u]? = _
    rw [List.getElem?_map, q1]
    rfl
  · have okA := HW ok s0 sl
    refine he.pu (O0 ++ O) σ H2 (masked ρ) d _ okA sl.mask e11 fun v H3 s3 rv => ?_
    have sub : Ak (Ai (O0 ++ O) H2) (Ai (O0 ++ O) H3) := Ds s3
    have sl' := sl.mono sub fun c _ o e => s3 c o e
    refine ⟨p', xs, v, rfl, rfl, s3 _ _ q2, ?_, q σ _ ⟨O, fun b o e => ?_, n, nd, ?_, ?_⟩⟩
    · rw [q3.length]
      exact of_decide_eq_true hfit
    · rw [Ba (De e (n p' hp))]
      exact s3 b o (s0 b o e)
    · rw [Ih (Bj hp)]
      exact g.trans sub
    · rw [Ih (Bj hp)]
      exact sl'.JZ (a := a) (ps := ps) (p := p') (j := u) ((q3.mono sub).append (.cons rv .nil)) nd e3 h1 (s3 _ _ h22) q1⟩
theorem AHV (i : Nat) {x : Str} {ix : Expr} {ti : TE} {fi : PF} {p Dv apos cpos : Pos} (hi : JE X K ix ti fi) (hK : X.K = K) (hsx : N5 ix) (hN : X.N[i]? = some x := by rfl) (hv : Fx X.env.scope x := by first | exact Or.inl rfl | exact Or.inr (Or.inl rfl) | exact Or.inr (Or.inr rfl)) (hd : (x == ("__debug__" : Str)) = false := by decide)
    (hcd : (x == ("__classdict__" : Str)) = false := by decide) (hbase : attributeBase (.Subscript (.Name x p) ix Dv) "pop" X.env (eval (.Subscript (.Name x p) ix Dv) X.env) = eval (.Subscript (.Name x p) ix Dv) X.env := by rfl) (hline : (apos.endLine == cpos.line) = true := by rfl)
    (hs2 : swapsWith (.Call (.Attribute (.Subscript (.Name x p) ix Dv) "pop" apos) [] [] cpos) none pos.line X.env = pure false := by rfl) :
    JS X K (.Expr (.Call (.Attribute (.Subscript (.Name x p) ix Dv) "pop" apos) [] [] cpos) pos) (Mi (yX K "list" vD (HB (Lx K) (Dm i) ti))) (RG i fi) := ⟨by
  subst hK
  exact UT (AGj PySem.F.plainAttrs_list PySem.F.slot_list_pop PySem.F.type_list_pop AJM (Us Vr (JH hN hv hd hcd) hi.pe hsx) hbase hline) hs2, by
  intro H0 O0 G σ H ρ o E ok s hf q
  obtain ⟨kd, e5, hf1⟩ := Al hf
  obtain ⟨k, e6, hf2⟩ := Al hf1
  obtain ⟨sl2, e3, hf3⟩ := Al hf2
  obtain ⟨dss, e4, hf4⟩ := Al hf3
  obtain ⟨u, e9, hf5⟩ := Al hf4
  obtain ⟨ds, e10, hf6⟩ := Al hf5
  rw [Uo e4] at e3
  by_cases hne : ds = []
  case pos => rw [if_pos hne] at hf6; cases hf6
  rw [if_neg hne] at hf6
  cases hf6
  obtain ⟨a, ps, h1, h2, h3⟩ := s.Fw e3
  refine ⟨_, h1, ?_⟩
  refine s.M7 hi.pu ok e5 fun vi H2 s2 t2 ri => ?_
  have h22 := s2 _ _ h2
  have hvi : vi = .int k := by
    cases ri with
    | int i => cases e6; rfl
    | _ => cases e6
  subst hvi
  obtain ⟨O, s0, n, nd, g, sl⟩ := t2.ex
  obtain ⟨a', ps', g1, g2, g3, g4, g5⟩ := sl.Fw nd e3
  rw [h1] at g1
  cases g1
  cases Uw h22 g4
  obtain ⟨p', xs, q1, q2, q3⟩ := g5.get e10
  have hp : p' ∈ O := g2 p' (BK (List.mem_of_getElem? q1))
  have hxl : 0 < xs.length := by rw [q3.length]; exact List.length_pos_iff.mpr hne
  have hdl : BL K (Ai (O0 ++ O) H2) xs.dropLast ds.dropLast := by
    rw [List.dropLast_eq_take, List.dropLast_eq_take, q3.length]
    exact q3.take _
  refine .inl ⟨a, _, k, .ref p', rfl, rfl, Bg.of h22, ?_, .inl ⟨rfl, _, Bg.of q2⟩, p', xs, _, rfl, rfl, q2, List.getElem?_eq_getElem (by omega), q σ _ ⟨O, fun b o e => ?_, n, nd, ?_, ?_⟩⟩
  · unfold L2.Cw
    rw [List.length_map, h3, e9]
    show (ps.map V.ref)[u]? = _
    rw [List.getElem?_map, q1]
    rfl
  · rw [Ba (De e (n p' hp))]
    exact s0 b o e
  · rw [Ih (Bj hp)]
    exact g
  · rw [Ih (Bj hp)]
    exact sl.JZ (a := a) (ps := ps) (p := p') (j := u) hdl nd e3 h1 h22 q1⟩
def Xj (f : Es) (fi : PF) : BW := fun ρ => (f ρ).bind fun dss => (fi ρ).bind fun kd => (Jd kd).bind fun k => (Dz dss.length k).bind fun u => dss[u]?
theorem AFf {e ix : Expr} {te ti : TE} {f : Es} {fi : PF} {Dv : Pos} (hK : X.K = K) (he : JN X K e te f) (hi : JE X K ix ti fi) (hsx : N5 ix) : JL X K (.Subscript e ix Dv) (HB (Lx K) te ti) (Xj f fi) := ⟨by
  subst hK
  exact Us Vr he.pe hi.pe hsx, by
  intro O σ H ρ ds Q ok er h q
  obtain ⟨dss, e1, h1⟩ := Al h
  obtain ⟨kd, e2, h2⟩ := Al h1
  obtain ⟨k, e3, h3⟩ := Al h2
  obtain ⟨u, e4, h4⟩ := Al h3
  refine he.pu O σ H ρ dss _ ok er e1 fun a ps H' s' nd hn ha inn => ?_
  refine hi.pu O σ H' ρ kd _ (ok.mono s') (er.Ai s') e2 fun vi H2 s2 ri => ?_
  have hvi : vi = .int k := by
    cases ri with
    | int i => cases e3; rfl
    | _ => cases e3
  subst hvi
  obtain ⟨p', xs, q1, q2, q3⟩ := inn.get h4
  have hpm : p' ∈ ps := List.mem_of_getElem? q1
  refine .inl ⟨a, _, k, .ref p', rfl, rfl, Bg.of (s2 _ _ ha), ?_, q p' xs H2 (s'.trans s2) (hn p' (BK hpm)) (s2 _ _ q2) ?_⟩
  · unfold L2.Cw
    rw [List.length_map, inn.len, e4]
    show (ps.map V.ref)[u]? = _
    rw [List.getElem?_map, q1]
    rfl
  · exact (q3.mono (Ds s2)).mono (DQ fun b hb => by
      rcases List.mem_cons.mp hb with rfl | hb
      · exact Cy (BK hpm)
      · exact Bj hb)⟩
end
theorem AJ5 (a : Addr) (ks : List Str) (ds : List D) : Sl.view (.tr a (.obj ks ds)) = some (.dict (Dq ks ds)) := rfl
theorem ANQ (a : Addr) (c : Cn) : Sl.mask (.tr a c) = none := rfl
theorem Zk (a : Addr) (ks : List Str) (ds : List D) : Mq (.tr a (.obj ks ds)) = some (a, ks, ds) := rfl
theorem lO (ds : List D) : Wf (.ow ds) = some ds := rfl
end L2
namespace LL
open PySem L2
def pc (s : List Thing) (k a b : Nat) : Nat := (((Ep k s).map (·.1)).filter fun p => decide (a ≤ p) && decide (p < b)).length
end LL
namespace LL
open PySem L2
end LL
namespace LL
open PySem L2
end LL
namespace S27
open PySem L2 LL S22
def cW : Ao := (Aw (Cd (GF (Ez (BP (Hs HF HF (Ad (.int 0)) (Aa 0) (Ad (.int 4))))) (Ez (BP (Hs HF HF (Ad (.int 1)) (Aa 1) (Ad (.int 20))))))
      (Br (Ad (.bool false))) DK)
    (Br (Gp (Ae Xi (Aa 2) (Ad (.int 1))) (Ae Xi (Aa 1) (Ae DX (Aa 2) (Ae Df (Aa 0) (Ad (.int 2))))))))
def Gq : List D → Option D := BZ 3 3 cW
def RB : Ao := (Aw (Cd (GF (Ez (BP (JR "tuple" (Aa 0)))) (BP (Ae Cm (Ar CG (Ab (Aa 0) Ag)) (Ad (.int 3)))))
      (Br (Ad (.bool false))) DK)
    (Aw (Cd (Ez (BP (Ar KJ (Ab (BV (Ca (Ox (Aa 0)) (Cg 0) Cq (Ar HQ (Ab (Aa 0) Ag)) 1 [])) Ag))))
      (Br (Ad (.bool false))) DK)
    (Br (Ar Gq (Ab (Ae Az (Aa 0) (Ad (.int 0))) (Ab (Ae Az (Aa 0) (Ad (.int 1))) (Ab (Ae Az (Aa 0) (Ad (.int 2))) Ag)))))))
def FJ : List D → Option D := BZ 1 1 RB
def Yc : Ao := (Aw (Bb 2 (vS (Ar Il (Ab (BV (Bm IV (Ab (Aa 0) (Ab (Aa 1) Ag)))) Ag)))) (Aw (Cd (BP (Ae Ry (Aa 2) (Ad .none)))
      (Hd (CQ Ag)) DK)
    (Hd (Bm Qa (Ab (Ar Ln (Ab (Aa 1) Ag)) (Ab (BV (CQ (Ab (Bt (Ab (Aa 2) (Ab (Bt Ag) Ag))) Ag))) Ag))))))
def RM : List D → Option (List D) := Dh 2 3 Yc
def eE : Ao := (Hd (Bm IV (Ab (Kc (Aa 0) "bounds") (Ab (Kc (Aa 0) "lying") Ag))))
def JF : List D → Option (List D) := Dh 1 1 eE
def eY : Ao := (Br (Ar Od (Ab (Kc (Aa 0) "bounds") (Ab (Ar Im (Ab (Kc (Aa 0) "lying") Ag)) (Ab (BV (Kl "shelf" JF (Aa 0) Ag)) Ag)))))
def QM : List D → Option D := BZ 1 1 eY
def aP : Ao := (Br (Ar Ou (Ab (Kc (Aa 0) "bounds") (Ab (Ar Im (Ab (Kc (Aa 0) "lying") Ag)) (Ab (BV (Kl "shelf" JF (Aa 0) Ag)) Ag)))))
def Pa : List D → Option D := BZ 1 1 aP
def Vg : Ao := (Aw (Hg 0 "lying" (YK (Xy Mp (Ab (Aa 1) (Ab (BV (Bm RM (Ab (Kc (Aa 0) "bounds") (Ab (Aa 1) Ag)))) Ag))))) (Aw (Hg 0 "puts" (vS (Ad (.int 0)))) (Aw (Hg 0 "moves" (vS (Ad (.int 0)))) (Aw (Hg 0 "laid" (vS (Ad (.int 0)))) (Aw (Hg 0 "first_excess" (vF (Kl "excess" QM (Aa 0) Ag))) (Hg 0 "first_over" (vF (Kl "over" Pa (Aa 0) Ag))))))))
def Mg : MF := runM 2 2 Vg
def Ld : Ao := (Aw (Cd (Ez (BP (Ar FJ (Ab (Aa 1) Ag))))
      Qv DK)
    (Aw (Cd (Ez (BP (Ar Ey (Ab (Aa 1) (Ab (Aa 2) Ag)))))
      Qv DK)
    (Aw (Hg 0 "bounds" (vS (Aa 1)))
    (fX (XQ 0 "come_up" Mg (Ab (Aa 2) Ag))))))
def Fz : MF := runM 3 3 Ld
def S8 : GJ := (Mm (Cd (Ez (BP (Ar FJ (Ab (Aa 1) Ag))))
      Qv DK) (Oh (Ez (BP (Ar FJ (Ab (Aa 1) Ag)))) (cN "BadBounds") XM)
    (Mm (Cd (Ez (BP (Ar Ey (Ab (Aa 1) (Ab (Aa 2) Ag)))))
      Qv DK) (Oh (Ez (BP (Ar Ey (Ab (Aa 1) (Ab (Aa 2) Ag))))) (cN "BadDisk") XM)
    XM))
def K8 : List D → Option Str := VD 3 3 S8
def cU : Ao := (Hd (Bm MN (Ab (BV (Kl "shelf" JF (Aa 0) Ag)) Ag)))
def Qh : List D → Option (List D) := Dh 1 1 cU
def Yj : Ao := (Aw (Qd (U0 2 3 4) (vS (Aa 0))) (Aw (Bb 5 (vS (BV (CQ (Ab (Ad .none) (Ab (BV (CQ (Ab (Aa 2) (Ab (Aa 3) (Ab (Aa 4) Ag))))) (Ab (Bt (Ab (Aa 2) (Ab (Aa 3) Ag))) (Ab (Bt (Ab (Ad (.int 5)) (Ab (Aa 3) (Ab (Aa 4) Ag)))) (Ab (Bt (Ab (Nf Q5 (Ad (.int 1))) (Ab (Aa 3) (Ab (Aa 4) Ag)))) (Ab (Bt (Ab (Aa 2) (Ab (Ad (.int 21)) (Ab (Aa 4) Ag)))) Ag)))))))))) (Aw (Bb 5 (vS (BV (Gy (Aa 5) (BV (CQ (Ab (Bt (Ab (Aa 2) (Ab (Ae Eu (Ae DX (Aa 4) (Ae Df (Aa 2) (Ad (.int 2)))) (Ad (.int 1))) (Ab (Aa 4) Ag)))) (Ab (Bt (Ab (Aa 2) (Ab (Aa 3) (Ab (Ad (.int 0)) Ag)))) (Ab (Bt (Ab (Ad (.bool true)) (Ab (Aa 3) (Ab (Aa 4) Ag)))) (Ab (Bt (Ab (Aa 2) (Ab (Ad (.str "6")) (Ab (Aa 4) Ag)))) Ag)))))))))) (Br (Ae Az (Aa 5) (Ae Bl (Aa 1) (Ad (.int 10))))))))
def Rm : List D → Option D := BZ 2 6 Yj
def wQ : Ao := (Aw (Bb 3 (vN (Kp (Dw (Aa 1)) (Cg 0) Cq (Bm Fy (Ab (Aa 0) Ag)) 1 []))) (Aw (Bb 4 (vS (Ae Bl (Aa 2) (Ad (.int 10))))) (Aw (Qd (Ha 5 6) (vS (Ae Az (Ae Az (Aa 1) (Ad (.int 2))) (Ad (.int 0))))) (Aw (Bb 7 (vS (Ae DX (Ar Gw (Ab (Aa 6) Ag)) (Ae Az (Aa 0) (Ad (.int 1)))))) (Aw (Cd (BP (Ae Bx (Aa 4) (Ad (.int 0))))
      (Br (Ae Az (BV (CQ (Ab (Ad .none) (Ab (Ar V4 (Ab (Aa 3) Ag)) (Ab (BV (Fl (Aa 3) Gs (GC (Ad (.int 2))))) (Ab (BV (CQ Ag)) Ag)))))) (Ae Bl (Ae CJ (Aa 2) (Ad (.int 8))) (Ad (.int 4))))) DK)
    (Aw (Cd (BP (Ae Bx (Aa 4) (Ad (.int 1))))
      (Iv 3 (Ad (.int 2)) (vL (Xj (U3 (JB (CQ (Ab (Bt (Ab (Ad (.int 2)) (Ab (Ad (.int 0)) Ag))) Ag)) (JB (CQ (Ab (Bt (Ab (Ad (.int 0)) (Ab (Ae Df (Ae Az (Aa 0) (Ad (.int 0))) (Ad (.int 1))) Ag))) Ag)) (JB (CQ (Ab (Bt (Ab (Ad (.int 0)) (Ab (Ad (.int 0)) Ag))) (Ab (Bt (Ab (Ad (.int 0)) (Ab (Ad (.int 0)) Ag))) Ag))) (JB (CQ (Ab (Ad .none) Ag)) Vk))))) (Ae Bl (Ae CJ (Aa 2) (Ad (.int 8))) (Ad (.int 4)))))) DK)
    (Aw (Cd (BP (Ae Bx (Aa 4) (Ad (.int 2))))
      (Q7 3 (Ae Bl (Ae CJ (Aa 2) (Ad (.int 8))) (Ad (.int 2))) (Bt Ag)) DK)
    (Aw (Cd (BP (Ae Bx (Aa 4) (Ad (.int 3))))
      (RG 3 (Ae Bl (Ae CJ (Aa 2) (Ad (.int 8))) (Ad (.int 2)))) DK)
    (Aw (Cd (GF (BP (Ae Bx (Aa 4) (Ad (.int 4)))) (GF (Gi (BP (Ae Bx (Aa 4) (Ad (.int 8)))) (BP (Ae Ht (Aa 7) (Ad (.int 4))))) (Gi (BP (Ae Bx (Aa 4) (Ad (.int 9)))) (BP (Ae Bx (Aa 6) (Ad (.int 0)))))))
      (Iv 3 (Aa 5) (Kd (Gy (BV (CQ (Ab (Bt (Ab (Ad (.int 5)) (Ab (Ad (.int 1)) Ag))) (Ab (Bt (Ab (Ad (.int 4)) (Ab (Ad (.int 1)) Ag))) Ag)))) (BV (Fl (Ae Az (Aa 3) (Aa 5)) (GC (Ad (.int 2))) Gs)))))
      (Cd (BP (Ae Bx (Aa 4) (Ad (.int 8))))
        (Iv 3 (Aa 5) (Kd (Gy (BV (CQ (Ab (Bt (Ab (Ad (.int 4)) (Ab (Ad (.int 1)) Ag))) (Ab (Bt (Ab (Ad (.int 4)) (Ab (Ad (.int 1)) Ag))) (Ab (Bt (Ab (Ad (.int 5)) (Ab (Ad (.int 1)) Ag))) (Ab (Bt (Ab (Ad (.int 5)) (Ab (Ad (.int 1)) Ag))) Ag)))))) (BV (Fl (Ae Az (Aa 3) (Aa 5)) (GC (Ad (.int 4))) Gs)))))
        (Cd (BP (Ae Bx (Aa 4) (Ad (.int 9))))
          (Iv 3 (Aa 5) (Kd (Gy (BV (Bm JK (Ab (Aa 0) (Ab (Aa 6) (Ab (Aa 2) (Ab (Ae Df (Ar Jc (Ab (Aa 0) (Ab (Aa 6) Ag))) (Ad (.int 1))) Ag)))))) (BV (Fl (Ae Az (Aa 3) (Aa 5)) (GC (Aa 7)) Gs)))))
          (Cd (BP (Ae Lp (Aa 4) (Ad (.int 4))))
            (Aw (Bb 8 (vS (Ae Bl (Ae CJ (Aa 2) (Ad (.int 8))) (Ad (.int 2)))))
            (Lr 3 (Aa 8) (Ae Bl (Ae CJ (Aa 2) (Ad (.int 16))) (Ar CG (Ab (Ae Az (Aa 3) (Aa 8)) Ag))) (vS (Ae Az (BV (CQ (Ab (Ad .none) (Ab (Bt (Ab (Ad (.int 1)) (Ab (Ad (.int 2)) (Ab (Ad (.int 3)) Ag)))) (Ab (BV (CQ (Ab (Ad (.int 1)) (Ab (Ad (.int 2)) Ag)))) Ag))))) (Ae Eu (Aa 4) (Ad (.int 5))))))) DK))))
    (Br (Aa 3)))))))))))
def IK : List D → Option D := BZ 3 9 wQ
noncomputable def Wk : Ao := (Aw (Bb 2 (vS (BV (CQ Ag))))
    (Aw (SM 2 3 "BadBounds" "BadDisk" (YB Fz (Ab (Aa 0) (Ab (Aa 1) Ag))) (YF K8 (Ab (Aa 0) (Ab (Aa 1) Ag))))
    (Br (Aa 2))))
noncomputable def HN : List D → Option D := BZ 2 4 Wk
noncomputable def gA : Ao := (Aw (Bb 3 (vS (Ae Bl (Ae CJ (Aa 2) (Ad (.int 3))) (Ae Df (Ae Az (Aa 1) (Ad (.int 0))) (Ad (.int 1))))))
      (Aw (Bb 4 (vS (BV (Bm JK (Ab (Aa 1) (Ab (Aa 3) (Ab (Aa 2) (Ab (Ae Eu (Ar Jc (Ab (Aa 1) (Ab (Aa 3) Ag))) (Ae Bl (Ae CJ (Aa 2) (Ad (.int 15))) (Ad (.int 3)))) Ag))))))))
      (Aw (Bb 5 (Ho (Ca (Dw (Aa 4)) (Cg 0) (BP (Ae Cm (Aa 0) (Bt Ag))) (Aa 0) 1 [])))
      (Aw (Cd (BP (Ae Bx (Ae Bl (Ae CJ (Aa 2) (Ad (.int 45))) (Ad (.int 2))) (Ad (.int 1))))
        (Bb 4 (vS (BV (Bm Mz (Ab (Aa 4) (Ab (Ae CJ (Aa 2) (Ad (.int 90))) Ag)))))) DK)
      (Aw (Bb 6 (vS (BV (Bm Mw (Ab (Aa 1) (Ab (Aa 3) (Ab (Ae Bl (Ae CJ (Aa 2) (Ad (.int 7))) (Ad (.int 2))) (Ab (Aa 4) (Ab (Aa 2) Ag)))))))))
      (Aw (Bb 7 (Ho (Ca (Dw (Aa 6)) (Cg 0) Cq (BV (Bm Fy (Ab (Aa 0) Ag))) 1 [])))
      (Aw (Bb 8 (vS (WX Fz (Ab (Aa 1) (Ab (Aa 7) Ag)))))
      (Aw (Cd (GF (BP (Ae Cm (BV (Kl "rows" Qh (Aa 8) Ag)) (Aa 5))) (BP (Ae Cm (Aa 7) (Aa 6))))
        (Br (Ad (.bool false))) DK)
      (Aw (Bb 9 (vS (Ar IK (Ab (Aa 1) (Ab (Aa 6) (Ab (Ae CJ (Aa 2) (Ad (.int 11))) Ag))))))
      (Aw (Bb 10 (vS (Ar Rm (Ab (Aa 1) (Ab (Ae CJ (Aa 2) (Ad (.int 13))) Ag)))))
      (Aw (Cd (GF (BP (Ae Cm (Ar HN (Ab (Aa 10) (Ab (Aa 6) Ag))) (BV (CQ (Ab (Ad (.bool true)) (Ab (Ad (.bool false)) (Ab (Ad (.bool false)) (Ab (Ad (.bool true)) Ag)))))))) (BP (Ae Cm (Ar HN (Ab (Aa 10) (Ab (Aa 9) Ag))) (BV (CQ (Ab (Ad (.bool true)) (Ab (Ad (.bool false)) (Ab (Ad (.bool false)) (Ab (Ad (.bool true)) Ag)))))))))
        (Br (Ad (.bool false))) DK)
      (Cd (GF (BP (Ae Cm (Ar HN (Ab (Aa 1) (Ab (Aa 9) Ag))) (BV (CQ (Ab (Ad (.bool false)) (Ab (Ad (.bool true)) (Ab (Ad (.bool false)) (Ab (Ad (.bool true)) Ag)))))))) (BP (Ae Cm (Ar HN (Ab (Aa 1) (Ab (Aa 6) Ag))) (BV (CQ Ag)))))
        (Br (Ad (.bool false))) DK))))))))))))
noncomputable def YW : Ao := (Aw (Bb 1 (vS (Ar Qe (Ab (Ar Rk (Ab (Aa 0) (Ab (Ad (.int 0)) Ag))) Ag))))
    (Aw (J2 (Dw (BV (Ca (Dw (BV (Gy (BV (CQ (Ab (Ad (.int 0)) Ag))) (BV (Fl (Aa 0) (GC (Ad (.int 1))) (GC (Ad (.int 11)))))))) (Cg 0) Cq (Ar Jz (Ab (Aa 0) Ag)) 1 []))) (Kf 2) gA)
    (Br (Ad (.bool true)))))
noncomputable def Rf : List D → Option D := BZ 1 11 YW
end S27
namespace S27
open PySem L2 LL S22
def top (i : Nat) : Stmt := PySem.Challenge.pw_gapshelf_k27_no_bounds_no_disk.main.body.getD i (.Pass ⟨0, 0, 0, 0⟩)
abbrev Pk : Stmt := top 4
abbrev PQ : Stmt := top 5
abbrev P0 : Stmt := top 6
abbrev Nx : Stmt := top 7
abbrev QT : Stmt := top 8
abbrev Og : Stmt := top 9
abbrev Nj : Stmt := top 10
abbrev O8 : Stmt := top 12
abbrev Pj : Stmt := top 13
abbrev Pg : Stmt := top 14
abbrev Px : Stmt := top 15
abbrev NB : Stmt := top 16
abbrev Qc : Stmt := top 17
abbrev Ow : Stmt := top 18
abbrev Oo : Stmt := top 20
abbrev Oq : Stmt := top 21
abbrev NP : Stmt := top 22
abbrev Oe : Stmt := top 23
abbrev QK : Stmt := top 36
abbrev M6 : Stmt := top 37
abbrev Np : Stmt := top 38
abbrev O4 : Stmt := top 39
abbrev QR : Stmt := top 40
abbrev N6 : Stmt := top 41
abbrev Ov : Stmt := top 42
abbrev Nr : Stmt := top 43
abbrev M4 : Stmt := top 44
abbrev Nb : Stmt := top 45
abbrev QW : Stmt := top 46
abbrev O9 : Stmt := top 48
abbrev Mh : Stmt := clsAt (top 49) 0
abbrev Om : Stmt := clsAt (top 49) 1
abbrev M9 : Stmt := clsAt (top 49) 2
abbrev Nk : Stmt := clsAt (top 49) 7
abbrev Nm : Stmt := clsAt (top 49) 10
abbrev O5 : Stmt := clsAt (top 49) 11
abbrev Ny : Stmt := top 51
abbrev QS : Stmt := top 52
abbrev Nh : Stmt := top 53
abbrev QL : Stmt := top 54
abbrev QX : Stmt := top 55
abbrev Ot : Stmt := top 56
abbrev Oi : Stmt := top 57
abbrev Pn : Stmt := top 58
abbrev Qf : Stmt := top 59
abbrev N7 : Stmt := top 60
abbrev QB : Stmt := top 61
abbrev NZ : Stmt := top 62
abbrev O6 : Stmt := top 63
abbrev Pb : Stmt := top 64
structure Txt (K : Frag) (mg : Str → Option Value) (CK : Addr) : Prop where
  ob : Lk K CK
  mks : makesIn K CK = true
  kp : keepIn K (.ref CK) = true
  mgK : mg "Keeper" = some (.ref CK)
  Jj : Hu K "bounds"
  U8 : Hu K "first_excess"
  S9 : Hu K "first_over"
  Ub : Hu K "laid"
  Lw : Hu K "lying"
  VP : Hu K "moves"
  Td : Hu K "puts"
  AJa : mg "ValueError" = none
  Y0 : mg "all" = none
  AAo : mg "bool" = none
  vG : mg "enumerate" = none
  m5 : mg "int" = none
  Ia : mg "isinstance" = none
  Ex : mg "len" = none
  Jp : mg "list" = none
  jM : mg "max" = none
  Kr : mg "range" = none
  sG : mg "sum" = none
  Wj : mg "tuple" = none
  ABe : mg "zip" = none
  AJZ : ∃ t, mg "GREATEST_TOP" = some (.int 4 t)
  ACm : ∃ t, mg "GREATEST_WIDTH" = some (.int 20 t)
  ZG : ∃ t, mg "SIGN_PART" = some (.int 2 t)
section
variable {P : Program} {w : World} {K : Frag} {mg : Str → Option Value} {base : Heap} {CK : Addr}
structure KF (K : Frag) (mg : Str → Option Value) (Dc C1 C2 d1 d2 d3 d4 : Addr) : Prop where
  m0 : mg "ShelfError" = some (.ref Dc)
  t1 : mg "Full" = some (.ref d1)
  t2 : mg "NoKey" = some (.ref d2)
  t3 : mg "NoText" = some (.ref d3)
  t4 : mg "NoRow" = some (.ref d4)
  x0 : excIn K Dc HS "ValueError.__new__" = true
  x1 : excIn K C1 HS "ValueError.__new__" = true
  x2 : excIn K C2 HS "ValueError.__new__" = true
  e1 : Ky K C1
  e2 : Ky K C2
  l1 : (PySem.W.clsIn K C1).isSome = true
  l2 : (PySem.W.clsIn K C2).isSome = true
  s1 : mroIn K C1 (.ref Dc) = some true
  s2 : mroIn K C2 (.ref Dc) = some true
  kc : eQ K mg "BadBounds" "BadDisk" C1 C2 [d1, d2, d3, d4]
theorem KF.ek {K : Frag} {mg : Str → Option Value} {Dc C1 C2 d1 d2 d3 d4 : Addr} (kf : KF K mg Dc C1 C2 d1 d2 d3 d4) : ∀ C ∈ [C1, C2], Ky K C ∧ (PySem.W.clsIn K C).isSome = true ∧ mroIn K C (.ref Dc) = some true := fun C hC => by
  rcases List.mem_cons.mp hC with rfl | hC
  · exact ⟨kf.e1, kf.l1, kf.s1⟩
  · rcases List.mem_cons.mp hC with rfl | hC
    · exact ⟨kf.e2, kf.l2, kf.s2⟩
    · cases hC
theorem AMz {K : Frag} {te : TE} : Ga K te (fun _ => none) := by
  intro H0 O0 G σ H ρ s Q ok t hf q
  cases hf
theorem ADr : HQ = BZ 1 1 pU := by rfl
theorem AGQ : Bq ["thing"] ["thing"] (Av Pk) := by walk_at "sc"
theorem AIz (Ug : Def K mg "is_whole" Pk ["thing"]) (T : Txt K mg CK)  : Callee P w K mg base 1 "is_whole" ["thing"] (Ay K 1 HQ) := by
  refine Def.DP (ADr) Ug AGQ rfl rfl fun f c A o s H E hr => ?_
  have hu := CN hr
  exact ⟨_, (BX (Ce (Hw (Lb "int" rfl (by simp) rfl T.Ia rfl T.m5 (by rfl) (Ac 0)) (KQ (AMi (Lb "bool" rfl (by simp) rfl T.Ia rfl T.AAo (by rfl) (Ac 0)))))))⟩
theorem ANB : Gq = BZ 3 3 cW := by rfl
theorem AAP : Bq ["top", "width", "step"] ["top", "width", "step"] (Av P0) := by walk_at "sc"
theorem ALG (Tu : Def K mg "are_in_range" P0 ["top", "width", "step"]) (T : Txt K mg CK)  : Callee P w K mg base 1 "are_in_range" ["top", "width", "step"] (Ay K 3 Gq) := by
  refine Def.DP (ANB) Tu AAP rfl rfl fun f c A o s H E hr => ?_
  have hu := CN hr
  exact ⟨_, (BR (Ed (JW.jt (Kz (Ib (WQ Iw Iw Ah (Ac 0) (Uj (i := 4) rfl T.AJZ))) (MT (Ib (WQ Iw Iw Ah (Ac 1) (Uj (i := 20) rfl T.ACm))))))
      (BX (Ce Et)) Eh)
    (BX (Ce (Hw (K1 rR (Ac 2) Ah (CW _)) (KQ (K1 rR (Ac 1) (Ax Ei (Ac 2) (Ax Fd (Ac 0) Ah)) (CW _)))))))⟩
theorem ALA : FJ = BZ 1 1 RB := by rfl
theorem AH2 : Bq ["thing"] ["thing"] (Av PQ) := by walk_at "sc"
theorem ABW (Tf : Def K mg "is_bounds" PQ ["thing"]) (T : Txt K mg CK) (fO : Callee P w K mg base 1 "are_in_range" ["top", "width", "step"] (Ay K 3 Gq)) (QH : Callee P w K mg base 1 "is_whole" ["thing"] (Ay K 1 HQ)) : Callee P w K mg base 2 "is_bounds" ["thing"] (Ay K 1 FJ) := by
  refine Def.DP (ALA) Tf AH2 rfl rfl fun f c A o s H E hr => ?_
  have hu := CN hr
  exact ⟨_, (BR (Ed (JW.jt (Kz (Ib (Jl (Lb "tuple" rfl (by simp) rfl T.Ia rfl T.Wj (by rfl) (Ac 0)) (fun _ => rfl))) (MT (Cz (GZ rfl hu) (Du (Ew rfl) (by rfl) T.Ex (by rfl) (Af (Ac 0) Aj)) Ah (CW _)))))
      (BX (Ce Et)) Eh)
    (BR (Ed (Ib (Jl (Du (dX rfl hr.hd) (by rfl) T.Y0 (by rfl) (Af (JL.je (J6 ["part"] [] rfl (ABc rfl (Ac 0)) trivial (G6 (by decide)) (fun _ _ _ _ => G5 (i := 0) (show (["part"] : List Str).Nodup by decide +kernel) rfl (Or.inl rfl) (Or.inr rfl)) (fun _ _ _ _ => Ie) (fun _ _ _ _ => (Bv QH (Bs _ _ _) hr rfl (Af (Ac 0) Aj))) rfl (by decide) (by decide) (Hh (by decide)))) Aj)) (fun _ => rfl)))
      (BX (Ce Et)) Eh)
    (BX (Ce (Bv fO (Bs _ _ _) hr rfl (Af (Bu rfl (Ac 0) Ah (fun _ _ => rfl)) (Af (Bu rfl (Ac 0) Ah (fun _ _ => rfl)) (Af (Bu rfl (Ac 0) Ah (fun _ _ => rfl)) Aj))))))))⟩
theorem ACH : J0 = BZ 1 3 fJ := by rfl
theorem V9 : Bq ["height", "power", "doubling"] ["height"] (Av Nx) := by walk_at "sc"
theorem AEr (U4 : Def K mg "twofold" Nx ["height"]) (T : Txt K mg CK)  : Callee P w K mg base 1 "twofold" ["height"] (Ay K 1 J0) := by
  refine Def.DP (ACH) U4 V9 rfl rfl fun f c A o s H E hr => ?_
  have hu := CN hr
  exact ⟨_, (BR (CZ (i := 1) V9.nd rfl (Or.inl rfl) Ah)
    (BR (RK PassesOwn.never rfl (Qu rfl T.Kr (Af (Ac 0) Aj)) (Wv (i := 2) V9.nd rfl (Or.inl rfl))
      (BX (CZ (i := 1) V9.nd rfl (Or.inl rfl) (Ax Ei (Ac 1) Ah))))
    (BX (Ce (Ac 1)))))⟩
theorem AMr : J3 = BZ 2 3 gM := by rfl
theorem rQ : Bq ["bounds", "height", "width"] ["bounds", "height"] (Av QT) := by walk_at "sc"
theorem ABj (Tw : Def K mg "places_of" QT ["bounds", "height"]) (T : Txt K mg CK) (Kq : Callee P w K mg base 1 "twofold" ["height"] (Ay K 1 J0)) : Callee P w K mg base 2 "places_of" ["bounds", "height"] (Ay K 2 J3) := by
  refine Def.DP (AMr) Tw rQ rfl rfl fun f c A o s H E hr => ?_
  have hu := CN hr
  exact ⟨_, (BR (CZ (i := 2) rQ.nd rfl (Or.inl rfl) (Bu rfl (Ac 0) Ah (fun _ _ => rfl)))
    (BX (Ce (Ax Ei (Bv Kq (Bs _ _ _) hr rfl (Af (Ac 1) Aj)) (Ac 2)))))⟩
theorem AHP : MK = BZ 2 4 ZJ := by rfl
theorem Zi : Bq ["bounds", "height", "width", "step"] ["bounds", "height"] (Av Og) := by walk_at "sc"
theorem AJ0 (Uv : Def K mg "cap_of" Og ["bounds", "height"]) (T : Txt K mg CK) (Kq : Callee P w K mg base 1 "twofold" ["height"] (Ay K 1 J0)) : Callee P w K mg base 2 "cap_of" ["bounds", "height"] (Ay K 2 MK) := by
  refine Def.DP (AHP) Uv Zi rfl rfl fun f c A o s H E hr => ?_
  have hu := CN hr
  exact ⟨_, (BR (CZ (i := 2) Zi.nd rfl (Or.inl rfl) (Bu rfl (Ac 0) Ah (fun _ _ => rfl)))
    (BR (CZ (i := 3) Zi.nd rfl (Or.inl rfl) (Bu rfl (Ac 0) Ah (fun _ _ => rfl)))
    (BX (Ce (Ax Ei (Bv Kq (Bs _ _ _) hr rfl (Af (Ac 1) Aj)) (Ax HH (Ac 2) (Ax Ei (Ac 3) (Ac 1))))))))⟩
theorem AAm : Q0 = BZ 2 4 Zf := by rfl
theorem cX : Bq ["bounds", "height", "width", "step"] ["bounds", "height"] (Av Nj) := by walk_at "sc"
theorem AEJ (U5 : Def K mg "calm_of" Nj ["bounds", "height"]) (T : Txt K mg CK) (Kq : Callee P w K mg base 1 "twofold" ["height"] (Ay K 1 J0)) : Callee P w K mg base 2 "calm_of" ["bounds", "height"] (Ay K 2 Q0) := by
  refine Def.DP (AAm) U5 cX rfl rfl fun f c A o s H E hr => ?_
  have hu := CN hr
  exact ⟨_, (BR (CZ (i := 2) cX.nd rfl (Or.inl rfl) (Bu rfl (Ac 0) Ah (fun _ _ => rfl)))
    (BR (CZ (i := 3) cX.nd rfl (Or.inl rfl) (Bu rfl (Ac 0) Ah (fun _ _ => rfl)))
    (BX (Ce (Ax Ei (Bv Kq (Bs _ _ _) hr rfl (Af (Ac 1) Aj)) (Ax HH (Ac 2) (Ax Ei (Ac 3) (Ax Fd (Ac 1) Ah))))))))⟩
theorem ALq : Ro = BZ 1 2 aB := by rfl
theorem iB : Bq ["shelf", "keys"] ["shelf"] (Av O8) := by walk_at "sc"
theorem AHd (Va : Def K mg "is_straight" O8 ["shelf"]) (T : Txt K mg CK)  : Callee P w K mg base 1 "is_straight" ["shelf"] (Ay K 1 Ro) := by
  refine Def.DP (ALq) Va iB rfl rfl fun f c A o s H E hr => ?_
  have hu := CN hr
  exact ⟨_, (BR (RX (i := 1) Ho Ws ["thing"] [] iB.nd rfl (Or.inl rfl) rfl (Hq rfl (Ac 0)) trivial (G6 (by decide)) (fun _ _ _ _ => G5 (i := 0) (show (["thing"] : List Str).Nodup by decide +kernel) rfl (Or.inl rfl) (Or.inr rfl)) (fun _ _ _ _ => (Rh (Cz (GZ rfl hu) (Ac 0) (Cv Aj) (CW _)))) (fun _ _ _ _ => (Bu rfl (Ac 0) Ah (fun _ _ => rfl))) rfl (by decide) (by decide) (Hh (by decide)) (by rfl))
    (BX (Ce (Du (dX rfl hr.hd) (by rfl) T.Y0 (by rfl) (Af (JL.je (J6 ["key", "farther"] [] rfl (AIn rfl rfl T.ABe (Af (Ac 1) (Af (JL.je (Le rfl (Ac 1) (KN Ah) Nq)) Aj))) trivial (bY (by decide) (by decide)) (fun _ _ _ _ => bL (i := 0) (j := 1) rfl rfl (show (["key", "farther"] : List Str).Nodup by decide +kernel) rfl (Or.inl rfl) rfl (Or.inl rfl) (Or.inr rfl) (Or.inr rfl)) (fun _ _ _ _ => Ie) (fun _ _ _ _ => (K1 Vt (Ac 0) (Ac 1) (CW _))) rfl (by decide) (by decide) (Hh (by decide)))) Aj)))))⟩
theorem AAu : Oa = Dh 2 5 cC := by rfl
theorem ZL : Bq ["shelf", "writes", "places", "place", "thing"] ["shelf", "writes"] (Av Ow) := by walk_at "sc"
theorem AEI (Tp : Def K mg "done" Ow ["shelf", "writes"]) (T : Txt K mg CK)  : Callee P w K mg base 1 "done" ["shelf", "writes"] (CT K 2 Oa) := by
  refine Def.Hl (AAu) Tp ZL rfl rfl fun f c A o s H E hr => ?_
  have hu := CN hr
  exact ⟨_, (BR (T6 (i := 2) ZL.nd rfl (Or.inl rfl) (Sd (Q4 rfl) (by rfl) T.Jp (by rfl) (Af (Ac 0) Aj)))
    (BR (RK PassesOwn.never rfl (Hq rfl (Ac 1)) (gK (i := 3) (j := 4) rfl rfl ZL.nd rfl (Or.inl rfl) rfl (Or.inl rfl))
      (BX (Yw 2 (Ac 4) (Ac 3))))
    (BX (T8 2))))⟩
theorem AAL : Il = BZ 1 4 Wu := by rfl
theorem Xw : Bq ["shelf", "last", "place", "thing"] ["shelf"] (Av Pg) := by walk_at "sc"
theorem AMO (VG : Def K mg "second_place" Pg ["shelf"]) (T : Txt K mg CK)  : Callee P w K mg base 1 "second_place" ["shelf"] (Ay K 1 Il) := by
  refine Def.DP (AAL) VG Xw rfl rfl fun f c A o s H E hr => ?_
  have hu := CN hr
  exact ⟨_, (BR (CZ (i := 1) Xw.nd rfl (Or.inl rfl) (Cv Aj))
    (BR (RK PassesOwn.never rfl (vV rfl rfl T.vG (Af (Ac 0) Aj)) (gK (i := 2) (j := 3) rfl rfl Xw.nd rfl (Or.inl rfl) rfl (Or.inl rfl))
      (BR (Ed (JW.jt (Sx (Cz (GZ rfl hu) (Ac 3) (Cv Aj) (CW _)) (R7 (Cz (Fg rfl hu) (Ac 3) (Ac 1) (CW _)))))
        (BX (Ce (Ac 2))) Eh)
      (BX (Ed (Cz (GZ rfl hu) (Ac 3) (Cv Aj) (CW _))
        (BX (CZ (i := 1) Xw.nd rfl (Or.inl rfl) (Ac 3))) Eh))))
    (BX (Ce QQ))))⟩
theorem AIj : M3 = Dh 1 2 Zd := by rfl
theorem yF : Bq ["shelf", "second"] ["shelf"] (Av Px) := by walk_at "sc"
theorem ALp (Th : Def K mg "mended" Px ["shelf"]) (T : Txt K mg CK) (eO : Callee P w K mg base 1 "done" ["shelf", "writes"] (CT K 2 Oa)) (Rr : Callee P w K mg base 1 "second_place" ["shelf"] (Ay K 1 Il)) : Callee P w K mg base 2 "mended" ["shelf"] (CT K 1 M3) := by
  refine Def.Hl (AIj) Th yF rfl rfl fun f c A o s H E hr => ?_
  have hu := CN hr
  exact ⟨_, (BR (CZ (i := 1) yF.nd rfl (Or.inl rfl) (Bv Rr (Bs _ _ _) hr rfl (Af (Ac 0) Aj)))
    (BR (Ed (Cz sU (Ac 1) QQ (CW _))
      (BX (Jq (Sd (Q4 rfl) (by rfl) T.Jp (by rfl) (Af (Ac 0) Aj)))) Eh)
    (BX (Jq (HJ eO (Fv _ _ _) hr rfl (Af (Ac 0) (Af (JL.je (DY (Af (Cv (Af (Ac 1) (Af (Cv Aj) Aj))) Aj))) Aj)))))))⟩
theorem ABh : Qz = BZ 1 1 dO := by rfl
theorem AJx : Bq ["shelf"] ["shelf"] (Av Pj) := by walk_at "sc"
theorem ALh (UL : Def K mg "is_sound" Pj ["shelf"]) (T : Txt K mg CK) (cB : Callee P w K mg base 2 "is_straight" ["shelf"] (Ay K 1 Ro)) (Qt : Callee P w K mg base 2 "mended" ["shelf"] (CT K 1 M3)) : Callee P w K mg base 3 "is_sound" ["shelf"] (Ay K 1 Qz) := by
  refine Def.DP (ABh) UL AJx rfl rfl fun f c A o s H E hr => ?_
  have hu := CN hr
  exact ⟨_, (BX (Ce (Bv cB (Bs _ _ _) hr rfl (Af (JL.je (HJ Qt (Fv _ _ _) hr rfl (Af (Ac 0) Aj))) Aj))))⟩
theorem ACk : MN = Dh 1 1 Zn := by rfl
theorem ADn : Bq ["shelf"] ["shelf"] (Av NB) := by walk_at "sc"
theorem AAZ (Vc : Def K mg "rows_of" NB ["shelf"]) (T : Txt K mg CK) (Qt : Callee P w K mg base 2 "mended" ["shelf"] (CT K 1 M3)) : Callee P w K mg base 3 "rows_of" ["shelf"] (CT K 1 MN) := by
  refine Def.Hl (ACk) Vc ADn rfl rfl fun f c A o s H E hr => ?_
  have hu := CN hr
  exact ⟨_, (BX (Jq (J6 ["thing"] [] rfl (Hq rfl (JL.je (HJ Qt (Fv _ _ _) hr rfl (Af (Ac 0) Aj)))) trivial (G6 (by decide)) (fun _ _ _ _ => G5 (i := 0) (show (["thing"] : List Str).Nodup by decide +kernel) rfl (Or.inl rfl) (Or.inr rfl)) (fun _ _ _ _ => (Rh (Cz (GZ rfl hu) (Ac 0) (Cv Aj) (CW _)))) (fun _ _ _ _ => (Ac 0)) rfl (by decide) (by decide) (Hh (by decide)))))⟩
theorem ADQ : J7 = BZ 3 3 ZS := by rfl
theorem AJj : Bq ["shelf", "first", "behind"] ["shelf", "first", "behind"] (Av Qc) := by walk_at "sc"
theorem ADW (Vw : Def K mg "held" Qc ["shelf", "first", "behind"]) (T : Txt K mg CK)  : Callee P w K mg base 1 "held" ["shelf", "first", "behind"] (Ay K 3 J7) := by
  refine Def.DP (ADQ) Vw AJj rfl rfl fun f c A o s H E hr => ?_
  have hu := CN hr
  exact ⟨_, (BX (Ce (Du (Ew rfl) (by rfl) T.Ex (by rfl) (Af (JL.je (J6 ["place", "thing"] [(1, "first"), (2, "behind")] rfl (vV rfl rfl T.vG (Af (Ac 0) Aj)) ⟨⟨rfl, Or.inl rfl, Or.inl rfl⟩, ⟨⟨rfl, Or.inl rfl, Or.inl rfl⟩, trivial⟩⟩ (bY (by decide) (by decide)) (fun _ _ _ _ => bL (i := 0) (j := 1) rfl rfl (show (["place", "thing", "first", "behind"] : List Str).Nodup by decide +kernel) rfl (Or.inl rfl) rfl (Or.inl rfl) (Or.inr rfl) (Or.inr rfl)) (fun _ _ _ _ => (Rh (JW.jt (Sx (WQ Iw Vt (Ac 2) (Ac 0) (Ac 3)) (R7 (Cz (GZ rfl hu) (Ac 1) (Cv Aj) (CW _))))))) (fun _ _ _ _ => (Ac 1)) rfl (by decide) (by decide) (by rfl))) Aj))))⟩
theorem AJ8 : Jr = BZ 2 2 bR := by rfl
theorem AEz : Bq ["number", "bound"] ["number", "bound"] (Av Oo) := by walk_at "sc"
theorem ADk (Tv : Def K mg "beyond" Oo ["number", "bound"]) (T : Txt K mg CK)  : Callee P w K mg base 1 "beyond" ["number", "bound"] (Ay K 2 Jr) := by
  refine Def.DP (AJ8) Tv AEz rfl rfl fun f c A o s H E hr => ?_
  have hu := CN hr
  exact ⟨_, (BX (Ce (Du (tE rfl) (by rfl) T.jM (by rfl) (Af Ah (Af (Ax HH (Ac 0) (Ac 1)) Aj)))))⟩
theorem AEX : Lj = BZ 3 5 Y8 := by rfl
theorem fW : Bq ["bounds", "level", "shelf", "size", "calm"] ["bounds", "level", "shelf"] (Av Oq) := by walk_at "sc"
theorem ANd (Tq : Def K mg "excess_at" Oq ["bounds", "level", "shelf"]) (T : Txt K mg CK) (Sw : Callee P w K mg base 2 "beyond" ["number", "bound"] (Ay K 2 Jr)) (Zg : Callee P w K mg base 2 "calm_of" ["bounds", "height"] (Ay K 2 Q0)) (SQ : Callee P w K mg base 2 "held" ["shelf", "first", "behind"] (Ay K 3 J7)) (Ks : Callee P w K mg base 2 "places_of" ["bounds", "height"] (Ay K 2 J3)) : Callee P w K mg base 3 "excess_at" ["bounds", "level", "shelf"] (Ay K 3 Lj) := by
  refine Def.DP (AEX) Tq fW rfl rfl fun f c A o s H E hr => ?_
  have hu := CN hr
  exact ⟨_, (BR (CZ (i := 3) fW.nd rfl (Or.inr rfl) (Bv Ks (Bs _ _ _) hr rfl (Af (Ac 0) (Af (Ac 1) Aj))))
    (BR (CZ (i := 4) fW.nd rfl (Or.inr rfl) (Bv Zg (Bs _ _ _) hr rfl (Af (Ac 0) (Af (Ac 1) Aj))))
    (BX (Ce (Du (uO rfl hr.hd) (by rfl) T.sG (by rfl) (Af (JL.je (J6 ["first"] [(4, "calm"), (2, "shelf"), (3, "size")] rfl (AKt rfl T.Kr (Af Ah (Af (Du (Ew rfl) (by rfl) T.Ex (by rfl) (Af (Ac 2) Aj)) (Af (Ac 3) Aj)))) ⟨⟨rfl, Or.inl rfl, Or.inl rfl⟩, ⟨⟨rfl, Or.inl rfl, Or.inl rfl⟩, ⟨⟨rfl, Or.inl rfl, Or.inl rfl⟩, trivial⟩⟩⟩ (G6 (by decide)) (fun _ _ _ _ => G5 (i := 0) (show (["first", "calm", "shelf", "size"] : List Str).Nodup by decide +kernel) rfl (Or.inl rfl) (Or.inr rfl)) (fun _ _ _ _ => Ie) (fun _ _ _ _ => (Bv Sw (Bs _ _ _) hr rfl (Af (Bv SQ (Bs _ _ _) hr rfl (Af (Ac 2) (Af (Ac 0) (Af (Ax Fd (Ac 0) (Ac 3)) Aj)))) (Af (Ac 1) Aj)))) rfl (by decide) (by decide) (by rfl))) Aj))))))⟩
theorem AAX : Od = BZ 3 3 fC := by rfl
theorem ANZ : Bq ["bounds", "height", "shelf"] ["bounds", "height", "shelf"] (Av NP) := by walk_at "sc"
theorem AHs (TJ : Def K mg "excess_of" NP ["bounds", "height", "shelf"]) (T : Txt K mg CK) (gC : Callee P w K mg base 3 "excess_at" ["bounds", "level", "shelf"] (Ay K 3 Lj)) : Callee P w K mg base 4 "excess_of" ["bounds", "height", "shelf"] (Ay K 3 Od) := by
  refine Def.DP (AAX) TJ ANZ rfl rfl fun f c A o s H E hr => ?_
  have hu := CN hr
  exact ⟨_, (BX (Ce (Du (uO rfl hr.hd) (by rfl) T.sG (by rfl) (Af (JL.je (J6 ["level"] [(0, "bounds"), (2, "shelf")] rfl (Qu rfl T.Kr (Af (Ac 1) Aj)) ⟨⟨rfl, Or.inl rfl, Or.inl rfl⟩, ⟨⟨rfl, Or.inl rfl, Or.inl rfl⟩, trivial⟩⟩ (G6 (by decide)) (fun _ _ _ _ => G5 (i := 0) (show (["level", "bounds", "shelf"] : List Str).Nodup by decide +kernel) rfl (Or.inl rfl) (Or.inr rfl)) (fun _ _ _ _ => Ie) (fun _ _ _ _ => (Bv gC (Bs _ _ _) hr rfl (Af (Ac 1) (Af (Ac 0) (Af (Ac 2) Aj))))) rfl (by decide) (by decide) (by rfl))) Aj))))⟩
theorem AMI : Ou = BZ 3 4 Yz := by rfl
theorem uH : Bq ["bounds", "height", "shelf", "lower_cap"] ["bounds", "height", "shelf"] (Av Oe) := by walk_at "sc"
theorem AJq (Vz : Def K mg "over_of" Oe ["bounds", "height", "shelf"]) (T : Txt K mg CK) (Sw : Callee P w K mg base 2 "beyond" ["number", "bound"] (Ay K 2 Jr)) (Ra : Callee P w K mg base 2 "cap_of" ["bounds", "height"] (Ay K 2 MK)) (SQ : Callee P w K mg base 2 "held" ["shelf", "first", "behind"] (Ay K 3 J7)) : Callee P w K mg base 3 "over_of" ["bounds", "height", "shelf"] (Ay K 3 Ou) := by
  refine Def.DP (AMI) Vz uH rfl rfl fun f c A o s H E hr => ?_
  have hu := CN hr
  exact ⟨_, (BR (CZ (i := 3) uH.nd rfl (Or.inl rfl) (AK8 (Cz (Fg rfl hu) (Ac 1) Ah (CW _)) Ah (Bv Ra (Bs _ _ _) hr rfl (Af (Ac 0) (Af (Ax HH (Ac 1) Ah) Aj)))))
    (BX (Ce (Bv Sw (Bs _ _ _) hr rfl (Af (Bv SQ (Bs _ _ _) hr rfl (Af (Ac 2) (Af Ah (Af (Du (Ew rfl) (by rfl) T.Ex (by rfl) (Af (Ac 2) Aj)) Aj)))) (Af (Ac 3) Aj))))))⟩
theorem AIS : KZ = BZ 1 1 W8 := by rfl
theorem zJ : Bq ["thing"] ["thing"] (Av QK) := by walk_at "sc"
theorem AAR (Ur : Def K mg "is_pair" QK ["thing"]) (T : Txt K mg CK) (QH : Callee P w K mg base 1 "is_whole" ["thing"] (Ay K 1 HQ)) : Callee P w K mg base 2 "is_pair" ["thing"] (Ay K 1 KZ) := by
  refine Def.DP (AIS) Ur zJ rfl rfl fun f c A o s H E hr => ?_
  have hu := CN hr
  exact ⟨_, (BX (Ce (Hw (Lb "tuple" rfl (by simp) rfl T.Ia rfl T.Wj (by rfl) (Ac 0)) (Hw (K1 (Fg rfl hu) (Du (Ew rfl) (by rfl) T.Ex (by rfl) (Af (Ac 0) Aj)) Ah (CW _)) (Hw (Bv QH (Bs _ _ _) hr rfl (Af (Bu rfl (Ac 0) Ah (fun _ _ => rfl)) Aj)) (KQ (Bv QH (Bs _ _ _) hr rfl (Af (Bu rfl (Ac 0) Ah (fun _ _ => rfl)) Aj))))))))⟩
theorem ALv : Jt = BZ 1 1 WD := by rfl
theorem AHB : Bq ["thing"] ["thing"] (Av M6) := by walk_at "sc"
theorem AOI (T9 : Def K mg "is_place" M6 ["thing"]) (T : Txt K mg CK) (Sq : Callee P w K mg base 2 "is_pair" ["thing"] (Ay K 1 KZ)) : Callee P w K mg base 3 "is_place" ["thing"] (Ay K 1 Jt) := by
  refine Def.DP (ALv) T9 AHB rfl rfl fun f c A o s H E hr => ?_
  have hu := CN hr
  exact ⟨_, (BX (Ce (AFZ (Bv Sq (Bs _ _ _) hr rfl (Af (Ac 0) Aj)) (KQ (Hw (Lb "tuple" rfl (by simp) rfl T.Ia rfl T.Wj (by rfl) (Ac 0)) (KQ (K1 (Fg rfl hu) (Du (Ew rfl) (by rfl) T.Ex (by rfl) (Af (Ac 0) Aj)) Ah (CW _))))))))⟩
theorem AHY : Py = BZ 2 2 ZC := by rfl
theorem AOS : Bq ["thing", "size"] ["thing", "size"] (Av Np) := by walk_at "sc"
theorem AHq (Tt : Def K mg "is_area" Np ["thing", "size"]) (T : Txt K mg CK) (fY : Callee P w K mg base 3 "is_place" ["thing"] (Ay K 1 Jt)) : Callee P w K mg base 4 "is_area" ["thing", "size"] (Ay K 2 Py) := by
  refine Def.DP (AHY) Tt AOS rfl rfl fun f c A o s H E hr => ?_
  have hu := CN hr
  exact ⟨_, (BX (Ce (Hw (Lb "list" rfl (by simp) rfl T.Ia rfl T.Jp (by rfl) (Ac 0)) (Hw (K1 (Fg rfl hu) (Du (Ew rfl) (by rfl) T.Ex (by rfl) (Af (Ac 0) Aj)) (Ac 1) (CW _)) (KQ (Du (dX rfl hr.hd) (by rfl) T.Y0 (by rfl) (Af (JL.je (J6 ["place"] [] rfl (Hq rfl (Ac 0)) trivial (G6 (by decide)) (fun _ _ _ _ => G5 (i := 0) (show (["place"] : List Str).Nodup by decide +kernel) rfl (Or.inl rfl) (Or.inr rfl)) (fun _ _ _ _ => Ie) (fun _ _ _ _ => (Bv fY (Bs _ _ _) hr rfl (Af (Ac 0) Aj))) rfl (by decide) (by decide) (Hh (by decide)))) Aj)))))))⟩
theorem ABu : Qk = BZ 2 2 Wn := by rfl
theorem AIJ : Bq ["bounds", "thing"] ["bounds", "thing"] (Av O4) := by walk_at "sc"
theorem AH9 (Vi : Def K mg "is_sign" O4 ["bounds", "thing"]) (T : Txt K mg CK) (Sq : Callee P w K mg base 2 "is_pair" ["thing"] (Ay K 1 KZ)) : Callee P w K mg base 3 "is_sign" ["bounds", "thing"] (Ay K 2 Qk) := by
  refine Def.DP (ABu) Vi AIJ rfl rfl fun f c A o s H E hr => ?_
  have hu := CN hr
  exact ⟨_, (BX (Ce (Hw (Bv Sq (Bs _ _ _) hr rfl (Af (Ac 1) Aj)) (Hw (wV Iw Iw Ah (Bu rfl (Ac 1) Ah (fun _ _ => rfl)) Ah) (KQ (wV Iw Iw Ah (Bu rfl (Ac 1) Ah (fun _ _ => rfl)) (Bu rfl (Ac 0) Ah (fun _ _ => rfl))))))))⟩
theorem AOK : Jx = BZ 2 4 Xh := by rfl
theorem ZD : Bq ["bounds", "thing", "size", "signs"] ["bounds", "thing"] (Av QR) := by walk_at "sc"
theorem AJy (Uc : Def K mg "has_form" QR ["bounds", "thing"]) (T : Txt K mg CK) (W9 : Callee P w K mg base 4 "is_area" ["thing", "size"] (Ay K 2 Py)) (eV : Callee P w K mg base 4 "is_sign" ["bounds", "thing"] (Ay K 2 Qk)) (Ks : Callee P w K mg base 4 "places_of" ["bounds", "height"] (Ay K 2 J3)) : Callee P w K mg base 5 "has_form" ["bounds", "thing"] (Ay K 2 Jx) := by
  refine Def.DP (AOK) Uc ZD rfl rfl fun f c A o s H E hr => ?_
  have hu := CN hr
  exact ⟨_, (BR (Ed (JW.jt (Kz (Ib (Jl (Lb "list" rfl (by simp) rfl T.Ia rfl T.Jp (by rfl) (Ac 1)) (fun _ => rfl))) (MT (Cz (GZ rfl hu) (Du (Ew rfl) (by rfl) T.Ex (by rfl) (Af (Ac 1) Aj)) Ah (CW _)))))
      (BX (Ce Et)) Eh)
    (BR (CZ (i := 2) ZD.nd rfl (Or.inl rfl) (Bv Ks (Bs _ _ _) hr rfl (Af (Ac 0) (Af (Bu rfl (Ac 0) Ah (fun _ _ => rfl)) Aj))))
    (BR (Ed (JW.jt (Kz (Ib (Jl (Bv W9 (Bs _ _ _) hr rfl (Af (Bu rfl (Ac 1) Ah (fun _ _ => rfl)) (Af (Ac 2) Aj))) (fun _ => rfl))) (MT (Ib (Jl (Bv W9 (Bs _ _ _) hr rfl (Af (Bu rfl (Ac 1) Ah (fun _ _ => rfl)) (Af (Ac 2) Aj))) (fun _ => rfl))))))
      (BX (Ce Et)) Eh)
    (BR (CZ (i := 3) ZD.nd rfl (Or.inl rfl) (Bu rfl (Ac 1) (Uj (i := 2) rfl T.ZG) (fun _ _ => rfl)))
    (BX (Ce (Hw (Lb "list" rfl (by simp) rfl T.Ia rfl T.Jp (by rfl) (Ac 3)) (Hw (K1 (Fg rfl hu) (Du (Ew rfl) (by rfl) T.Ex (by rfl) (Af (Ac 3) Aj)) Ah (CW _)) (KQ (Bv eV (Bs _ _ _) hr rfl (Af (Ac 0) (Af (Bu rfl (Ac 3) Ah (fun _ _ => rfl)) Aj))))))))))))⟩
theorem AH0 : Im = BZ 1 1 bW := by rfl
theorem AFl : Bq ["disk"] ["disk"] (Av Nr) := by walk_at "sc"
theorem AGP (Tg : Def K mg "height_on" Nr ["disk"]) (T : Txt K mg CK)  : Callee P w K mg base 1 "height_on" ["disk"] (Ay K 1 Im) := by
  refine Def.DP (AH0) Tg AFl rfl rfl fun f c A o s H E hr => ?_
  have hu := CN hr
  exact ⟨_, (BX (Ce (Bu rfl (Bu rfl (Bu rfl (Ac 0) (Uj (i := 2) rfl T.ZG) (fun _ _ => rfl)) Ah (fun _ _ => rfl)) Ah (fun _ _ => rfl))))⟩
theorem AGl : Ln = BZ 1 1 cP := by rfl
theorem AHN : Bq ["disk"] ["disk"] (Av Ov) := by walk_at "sc"
theorem AKR (Uq : Def K mg "area_on" Ov ["disk"]) (T : Txt K mg CK)  : Callee P w K mg base 1 "area_on" ["disk"] (Ay K 1 Ln) := by
  refine Def.DP (AGl) Uq AHN rfl rfl fun f c A o s H E hr => ?_
  have hu := CN hr
  exact ⟨_, (BX (Ce (Bu rfl (Bu rfl (Bu rfl (Ac 0) (Uj (i := 2) rfl T.ZG) (fun _ _ => rfl)) Ah (fun _ _ => rfl)) Ah (fun _ _ => rfl))))⟩
theorem AKO : IV = Dh 2 2 Zq := by rfl
theorem AKS : Bq ["bounds", "disk"] ["bounds", "disk"] (Av M4) := by walk_at "sc"
theorem AGT (Ud : Def K mg "shelf_on" M4 ["bounds", "disk"]) (T : Txt K mg CK) (Rx : Callee P w K mg base 2 "area_on" ["disk"] (Ay K 1 Ln)) (Ii : Callee P w K mg base 2 "height_on" ["disk"] (Ay K 1 Im)) (Ks : Callee P w K mg base 2 "places_of" ["bounds", "height"] (Ay K 2 J3)) : Callee P w K mg base 3 "shelf_on" ["bounds", "disk"] (CT K 2 IV) := by
  refine Def.Hl (AKO) Ud AKS rfl rfl fun f c A o s H E hr => ?_
  have hu := CN hr
  exact ⟨_, (BX (Jq (Le rfl (Bu rfl (Ac 1) (Bv Rx (Bs _ _ _) hr rfl (Af (Ac 1) Aj)) (fun _ _ => rfl)) Nq (KN (Bv Ks (Bs _ _ _) hr rfl (Af (Ac 0) (Af (Bv Ii (Bs _ _ _) hr rfl (Af (Ac 1) Aj)) Aj)))))))⟩
theorem ALR : Ey = BZ 2 3 Wq := by rfl
theorem tK : Bq ["bounds", "thing", "shelf"] ["bounds", "thing"] (Av N6) := by walk_at "sc"
theorem AH8 (VR : Def K mg "is_disk" N6 ["bounds", "thing"]) (T : Txt K mg CK) (Ra : Callee P w K mg base 5 "cap_of" ["bounds", "height"] (Ay K 2 MK)) (fG : Callee P w K mg base 5 "has_form" ["bounds", "thing"] (Ay K 2 Jx)) (Ii : Callee P w K mg base 5 "height_on" ["disk"] (Ay K 1 Im)) (cD : Callee P w K mg base 5 "is_sound" ["shelf"] (Ay K 1 Qz)) (R1 : Callee P w K mg base 5 "rows_of" ["shelf"] (CT K 1 MN)) (KY : Callee P w K mg base 5 "shelf_on" ["bounds", "disk"] (CT K 2 IV)) : Callee P w K mg base 6 "is_disk" ["bounds", "thing"] (Ay K 2 Ey) := by
  refine Def.DP (ALR) VR tK rfl rfl fun f c A o s H E hr => ?_
  have hu := CN hr
  exact ⟨_, (BR (Ed (Ib (Jl (Bv fG (Bs _ _ _) hr rfl (Af (Ac 0) (Af (Ac 1) Aj))) (fun _ => rfl)))
      (BX (Ce Et)) Eh)
    (BR (CZ (i := 2) tK.nd rfl (Or.inl rfl) (JL.je (HJ KY (Fv _ _ _) hr rfl (Af (Ac 0) (Af (Ac 1) Aj)))))
    (BX (Ce (Hw (Bv cD (Bs _ _ _) hr rfl (Af (Ac 2) Aj)) (KQ (K1 Iw (Du (Ew rfl) (by rfl) T.Ex (by rfl) (Af (JL.je (HJ R1 (Fv _ _ _) hr rfl (Af (Ac 2) Aj))) Aj)) (Bv Ra (Bs _ _ _) hr rfl (Af (Ac 0) (Af (Bv Ii (Bs _ _ _) hr rfl (Af (Ac 1) Aj)) Aj))) (CW _))))))))⟩
theorem AN7 : Mp = runN 2 6 UW := by rfl
theorem Yk : Bq ["disk", "writes", "parts", "part", "place", "thing"] ["disk", "writes"] (Av Nb) := by walk_at "sc"
theorem AFh (VF : Def K mg "written" Nb ["disk", "writes"]) (T : Txt K mg CK)  : Callee P w K mg base 1 "written" ["disk", "writes"] (R8 K 2 Mp) := by
  refine Def.AML (AN7) VF Yk rfl rfl fun f c A o s H E hr => ?_
  have hu := CN hr
  exact ⟨_, (BR (uB (i := 2) ["part"] [] Yk.nd rfl (Or.inl rfl) rfl (Hq rfl (Ac 0)) trivial (G6 (by decide)) (fun _ _ _ _ => G5 (i := 0) (show (["part"] : List Str).Nodup by decide +kernel) rfl (Or.inl rfl) (Or.inr rfl)) (fun _ _ _ _ => Ie) (fun _ _ _ _ => (Sd (Q4 rfl) (by rfl) T.Jp (by rfl) (Af (Ac 0) Aj))) rfl (by decide) (by decide) (Hh (by decide)) (by rfl))
    (BR (RK PassesOwn.never rfl (Hq rfl (Ac 1)) (uJ (i := 3) (j := 4) (l := 5) rfl rfl Yk.nd rfl (Or.inl rfl) rfl (Or.inl rfl) rfl (Or.inl rfl))
      (BX (rE 2 (Ac 5) rfl (Ac 3) (Ac 4) (fun _ _ => rfl))))
    (BX (ADM 2))))⟩
theorem ADw : Qa = Dh 2 2 bH := by rfl
theorem ANx : Bq ["area", "writes"] ["area", "writes"] (Av QW) := by walk_at "sc"
theorem AK1 (Vn : Def K mg "on_area" QW ["area", "writes"]) (T : Txt K mg CK)  : Callee P w K mg base 1 "on_area" ["area", "writes"] (CT K 2 Qa) := by
  refine Def.Hl (ADw) Vn ANx rfl rfl fun f c A o s H E hr => ?_
  have hu := CN hr
  exact ⟨_, (BX (Jq (J6 ["place", "thing"] [(0, "area")] rfl (Hq rfl (Ac 1)) ⟨⟨rfl, Or.inl rfl, Or.inl rfl⟩, trivial⟩ (bY (by decide) (by decide)) (fun _ _ _ _ => bL (i := 0) (j := 1) rfl rfl (show (["place", "thing", "area"] : List Str).Nodup by decide +kernel) rfl (Or.inl rfl) rfl (Or.inl rfl) (Or.inr rfl) (Or.inr rfl)) (fun _ _ _ _ => Ie) (fun _ _ _ _ => (Cv (Af (Ac 2) (Af (Ac 0) (Af (Ac 1) Aj))))) rfl (by decide) (by decide) (by rfl))))⟩
theorem AAw : RM = Dh 2 3 Yc := by rfl
theorem uY : Bq ["bounds", "disk", "second"] ["bounds", "disk"] (Av O9) := by walk_at "sc"
theorem AGh (Te : Def K mg "mending_writes" O9 ["bounds", "disk"]) (T : Txt K mg CK) (Rx : Callee P w K mg base 3 "area_on" ["disk"] (Ay K 1 Ln)) (aH : Callee P w K mg base 3 "on_area" ["area", "writes"] (CT K 2 Qa)) (Rr : Callee P w K mg base 3 "second_place" ["shelf"] (Ay K 1 Il)) (KY : Callee P w K mg base 3 "shelf_on" ["bounds", "disk"] (CT K 2 IV)) : Callee P w K mg base 4 "mending_writes" ["bounds", "disk"] (CT K 2 RM) := by
  refine Def.Hl (AAw) Te uY rfl rfl fun f c A o s H E hr => ?_
  have hu := CN hr
  exact ⟨_, (BR (CZ (i := 2) uY.nd rfl (Or.inl rfl) (Bv Rr (Bs _ _ _) hr rfl (Af (JL.je (HJ KY (Fv _ _ _) hr rfl (Af (Ac 0) (Af (Ac 1) Aj)))) Aj)))
    (BR (Ed (Cz sU (Ac 2) QQ (CW _))
      (BX (Jq (DY Aj))) Eh)
    (BX (Jq (HJ aH (Fv _ _ _) hr rfl (Af (Bv Rx (Bs _ _ _) hr rfl (Af (Ac 1) Aj)) (Af (JL.je (DY (Af (Cv (Af (Ac 2) (Af (Cv Aj) Aj))) Aj))) Aj)))))))⟩
theorem ADq : JF = Dh 1 1 eE := by rfl
theorem AMF : Bq ["self"] ["self"] (Av M9) := by walk_at "sc"
theorem AFI (Ue : DG K CK "shelf" "Keeper.shelf" M9 ["self"]) (T : Txt K mg CK) (KY : Callee P w K mg base 3 "shelf_on" ["bounds", "disk"] (CT K 2 IV)) : DR P w K mg base 4 CK "shelf" ["self"] (CT K 1 JF) := by
  refine DG.Hl (ADq) Ue AMF rfl rfl fun f c A o s H E hr => ?_
  have hu := CN hr
  exact ⟨_, (BX (Jq (HJ KY (Fv _ _ _) hr rfl (Af (OJ rfl T.Jj (Ac 0)) (Af (OJ rfl T.Lw (Ac 0)) Aj)))))⟩
theorem AAT : QM = BZ 1 1 eY := by rfl
theorem ANg : Bq ["self"] ["self"] (Av Nm) := by walk_at "sc"
theorem AK0 (U6 : DG K CK "excess" "Keeper.excess" Nm ["self"]) (T : Txt K mg CK) (KR : DR P w K mg base 4 CK "shelf" ["self"] (CT K 1 JF)) (fK : Callee P w K mg base 4 "excess_of" ["bounds", "height", "shelf"] (Ay K 3 Od)) (Ii : Callee P w K mg base 4 "height_on" ["disk"] (Ay K 1 Im)) : DR P w K mg base 5 CK "excess" ["self"] (Ay K 1 QM) := by
  refine DG.DP (AAT) U6 ANg rfl rfl fun f c A o s H E hr => ?_
  have hu := CN hr
  exact ⟨_, (BX (Ce (Bv fK (Bs _ _ _) hr rfl (Af (OJ rfl T.Jj (Ac 0)) (Af (Bv Ii (Bs _ _ _) hr rfl (Af (OJ rfl T.Lw (Ac 0)) Aj)) (Af (JL.je (Xk rfl T.ob.ns T.ob.cl KR (Fv _ _ _) hr (Ac 0))) Aj))))))⟩
theorem AGf : Pa = BZ 1 1 aP := by rfl
theorem AEv : Bq ["self"] ["self"] (Av O5) := by walk_at "sc"
theorem AAh (Ua : DG K CK "over" "Keeper.over" O5 ["self"]) (T : Txt K mg CK) (KR : DR P w K mg base 4 CK "shelf" ["self"] (CT K 1 JF)) (Ii : Callee P w K mg base 4 "height_on" ["disk"] (Ay K 1 Im)) (cY : Callee P w K mg base 4 "over_of" ["bounds", "height", "shelf"] (Ay K 3 Ou)) : DR P w K mg base 5 CK "over" ["self"] (Ay K 1 Pa) := by
  refine DG.DP (AGf) Ua AEv rfl rfl fun f c A o s H E hr => ?_
  have hu := CN hr
  exact ⟨_, (BX (Ce (Bv cY (Bs _ _ _) hr rfl (Af (OJ rfl T.Jj (Ac 0)) (Af (Bv Ii (Bs _ _ _) hr rfl (Af (OJ rfl T.Lw (Ac 0)) Aj)) (Af (JL.je (Xk rfl T.ob.ns T.ob.cl KR (Fv _ _ _) hr (Ac 0))) Aj))))))⟩
theorem AIf : Mg = runM 2 2 Vg := by rfl
theorem AGs : Bq ["self", "disk"] ["self", "disk"] (Av Om) := by walk_at "sc"
theorem AIx (Uy : DG K CK "come_up" "Keeper.come_up" Om ["self", "disk"]) (T : Txt K mg CK) (dH : DR P w K mg base 5 CK "excess" ["self"] (Ay K 1 QM)) (Zv : DR P w K mg base 5 CK "over" ["self"] (Ay K 1 Pa)) (Yx : Callee P w K mg base 5 "mending_writes" ["bounds", "disk"] (CT K 2 RM)) (b7 : Callee P w K mg base 5 "written" ["disk", "writes"] (R8 K 2 Mp)) : DR P w K mg base 6 CK "come_up" ["self", "disk"] (GR K 2 Mg) := by
  refine DG.kI (AIf) Uy AGs rfl rfl fun f c A o s H E hr => ?_
  have hu := CN hr
  exact ⟨_, (BR (AJn 0 rfl T.Lw (pv 0) (AHo b7 (AJS _ _ _) hr rfl (Af (Ac 1) (Af (JL.je (HJ Yx (Fv _ _ _) hr rfl (Af (OJ rfl T.Jj (Ac 0)) (Af (Ac 1) Aj)))) Aj))))
    (BR (Ut 0 rfl T.Td (pv 0) Ah)
    (BR (Ut 0 rfl T.VP (pv 0) Ah)
    (BR (Ut 0 rfl T.Ub (pv 0) Ah)
    (BR (lD 0 rfl T.U8 (pv 0) (oE rfl T.ob.ns T.ob.cl dH (Bs _ _ _) hr (Ac 0)))
    (BX (lD 0 rfl T.S9 (pv 0) (oE rfl T.ob.ns T.ob.cl Zv (Bs _ _ _) hr (Ac 0)))))))))⟩
theorem AJJ : Fz = runM 3 3 Ld := by rfl
theorem qJ : Bq ["self", "bounds", "disk"] ["self", "bounds", "disk"] (Av Mh) := by walk_at "sc"
theorem AAt (Ms : DG K CK "__init__" "Keeper.__init__" Mh ["self", "bounds", "disk"]) (T : Txt K mg CK) (Rb : DR P w K mg base 6 CK "come_up" ["self", "disk"] (GR K 2 Mg)) (Ql : Callee P w K mg base 6 "is_bounds" ["thing"] (Ay K 1 FJ)) (Rt : Callee P w K mg base 6 "is_disk" ["bounds", "thing"] (Ay K 2 Ey)) : DR P w K mg base 7 CK "__init__" ["self", "bounds", "disk"] (GR K 3 Fz) := by
  refine DG.kI (AJJ) Ms qJ rfl rfl fun f c A o s H E hr => ?_
  have hu := CN hr
  exact ⟨_, (BR (Ed (Ib (Jl (Bv Ql (Bs _ _ _) hr rfl (Af (Ac 1) Aj)) (fun _ => rfl)))
      (BX (xF)) Eh)
    (BR (Ed (Ib (Jl (Bv Rt (Bs _ _ _) hr rfl (Af (Ac 1) (Af (Ac 2) Aj))) (fun _ => rfl)))
      (BX (xF)) Eh)
    (BR (Ut 0 rfl T.Jj (pv 0) (Ac 1))
    (BX (mJ (iR (i := 0) rfl T.ob.ns T.ob.cl Rb (WR _ _ _) hr (pv 0) (Af (Ac 2) Aj)))))))⟩
theorem ABf (Ms : DG K CK "__init__" "Keeper.__init__" Mh ["self", "bounds", "disk"]) (T : Txt K mg CK) (Rb : DR P w K mg base 6 CK "come_up" ["self", "disk"] (GR K 2 Mg)) (Ql : Callee P w K mg base 6 "is_bounds" ["thing"] (Ay K 1 FJ)) (Rt : Callee P w K mg base 6 "is_disk" ["bounds", "thing"] (Ay K 2 Ey)) {sZ : Addr} (AGd : mg "BadBounds" = some (.ref sZ)) (AG9 : excIn K sZ HS "ValueError.__new__" = true) {jQ : Addr} (ABm : mg "BadDisk" = some (.ref jQ)) (ABr : excIn K jQ HS "ValueError.__new__" = true) : K4 P w K mg base 7 CK "__init__" ["self", "bounds", "disk"] (Q9 K 3 mg K8) := by
  refine DG.raises (G := S8) rfl Ms qJ rfl rfl fun f c A o s H E hr => ?_
  have hu := CN hr
  exact ⟨_, _, (tO (oH (Ib (Jl (Bv Ql (Bs _ _ _) hr rfl (Af (Ac 1) Aj)) (fun _ => rfl))) (pQ (wH hr.hd rfl AGd AG9)) (Ye Eh))
    (tO (oH (Ib (Jl (Bv Rt (Bs _ _ _) hr rfl (Af (Ac 1) (Af (Ac 2) Aj))) (fun _ => rfl))) (pQ (wH hr.hd rfl ABm ABr)) (Ye Eh))
    (Ye (BR (Ut 0 rfl T.Jj (pv 0) (Ac 1))
    (BX (mJ (iR (i := 0) rfl T.ob.ns T.ob.cl Rb (WR _ _ _) hr (pv 0) (Af (Ac 2) Aj))))))))⟩
theorem AOc : Qh = Dh 1 1 cU := by rfl
theorem AOP : Bq ["self"] ["self"] (Av Nk) := by walk_at "sc"
theorem AEM (Vm : DG K CK "rows" "Keeper.rows" Nk ["self"]) (T : Txt K mg CK) (KR : DR P w K mg base 4 CK "shelf" ["self"] (CT K 1 JF)) (R1 : Callee P w K mg base 4 "rows_of" ["shelf"] (CT K 1 MN)) : DR P w K mg base 5 CK "rows" ["self"] (CT K 1 Qh) := by
  refine DG.Hl (AOc) Vm AOP rfl rfl fun f c A o s H E hr => ?_
  have hu := CN hr
  exact ⟨_, (BX (Jq (HJ R1 (Fv _ _ _) hr rfl (Af (JL.je (Xk rfl T.ob.ns T.ob.cl KR (Fv _ _ _) hr (Ac 0))) Aj))))⟩
theorem AJ6 : Rk = BZ 2 2 W2 := by rfl
theorem AAH : Bq ["script", "k"] ["script", "k"] (Av Ny) := by walk_at "sc"
theorem AAS (Vp : Def K mg "_law_cell" Ny ["script", "k"]) (T : Txt K mg CK)  : Callee P w K mg base 1 "_law_cell" ["script", "k"] (Ay K 2 Rk) := by
  refine Def.DP (AJ6) Vp AAH rfl rfl fun f c A o s H E hr => ?_
  have hu := CN hr
  exact ⟨_, (BR (Ed (Cz Vt (Ac 1) (Du (Ew rfl) (by rfl) T.Ex (by rfl) (Af (Ac 0) Aj)) (CW _))
      (BX (Ce (Bu rfl (Ac 0) (Ac 1) (fun _ _ => rfl)))) Eh)
    (BX (Ce Ah)))⟩
theorem AAQ : Jz = BZ 1 2 bC := by rfl
theorem jG : Bq ["cell", "number"] ["cell"] (Av QS) := by walk_at "sc"
theorem ALb (Vu : Def K mg "_law_spread" QS ["cell"]) (T : Txt K mg CK)  : Callee P w K mg base 1 "_law_spread" ["cell"] (Ay K 1 Jz) := by
  refine Def.DP (AAQ) Vu jG rfl rfl fun f c A o s H E hr => ?_
  have hu := CN hr
  exact ⟨_, (BR (CZ (i := 1) jG.nd rfl (Or.inl rfl) (Ax Cu (Ax Ei (Ax Fd (Ax Cu (Ac 0) Ah) Ah) Ah) Ah))
    (BX (Ce (Ax Fd (Ax Cu (Ax Ei (Ac 1) (Ac 1)) Ah) (Ax Ei (Ax Cu (Ac 0) (Ax Ui Ah Ah)) Ah)))))⟩
theorem AJh : KH = BZ 2 3 fV := by rfl
theorem Y4 : Bq ["cell", "k", "number"] ["cell", "k"] (Av Nh) := by walk_at "sc"
theorem AK7 (T5 : Def K mg "_law_mixed" Nh ["cell", "k"]) (T : Txt K mg CK)  : Callee P w K mg base 1 "_law_mixed" ["cell", "k"] (Ay K 2 KH) := by
  refine Def.DP (AJh) T5 Y4 rfl rfl fun f c A o s H E hr => ?_
  have hu := CN hr
  exact ⟨_, (BR (CZ (i := 2) Y4.nd rfl (Or.inl rfl) (Ax Cu (Ax Ei (Ax Fd (Ax Cu (Ac 0) Ah) Ah) Ah) Ah))
    (BR (CZ (i := 2) Y4.nd rfl (Or.inl rfl) (Ax Cu (Ax Fd (Ax Fd (Ax Ei (Ac 2) (Ac 2)) (Ax Ei (Ac 1) Ah)) Ah) Ah))
    (BX (Ce (Ax Cu (Ax Ei (Ac 2) (Ac 2)) Ah)))))⟩
theorem AJI : Qe = BZ 1 6 ZR := by rfl
theorem R0 : Bq ["cell", "number", "top", "step", "low", "more"] ["cell"] (Av QL) := by walk_at "sc"
theorem ACW (Um : Def K mg "_law_bounds" QL ["cell"]) (T : Txt K mg CK) (RL : Callee P w K mg base 1 "_law_spread" ["cell"] (Ay K 1 Jz)) : Callee P w K mg base 2 "_law_bounds" ["cell"] (Ay K 1 Qe) := by
  refine Def.DP (AJI) Um R0 rfl rfl fun f c A o s H E hr => ?_
  have hu := CN hr
  exact ⟨_, (BR (CZ (i := 1) R0.nd rfl (Or.inl rfl) (Bv RL (Bs _ _ _) hr rfl (Af (Ac 0) Aj)))
    (BR (CZ (i := 2) R0.nd rfl (Or.inl rfl) (Bu rfl (JL.je (DY (Af Ah (Af Ah (Af Ah (Af Ah (Af Ah (Af Ah (Af Ah (Af Ah Aj)))))))))) (Ax Cu (Ac 1) Ah) (fun _ _ => rfl)))
    (BR (CZ (i := 3) R0.nd rfl (Or.inl rfl) (Ax Fd Ah (Ax Cu (Ax Eb (Ac 1) Ah) (Ax Eb Ah (Ax Fd (Ac 2) Ah)))))
    (BR (CZ (i := 4) R0.nd rfl (Or.inl rfl) (Ax Ei (Ac 3) (Ax Fd (Ac 2) Ah)))
    (BR (CZ (i := 5) R0.nd rfl (Or.inl rfl) (Bu rfl (JL.je (DY (Af (Ax Cu (Ax Eb (Ac 1) Ah) Ah) (Af (Ax Cu (Ax Eb (Ac 1) Ah) Ah) Aj)))) (Ax Cu (Ax Eb (Ac 1) Ah) Ah) (fun _ _ => rfl)))
    (BX (Ce (Cv (Af (Ac 2) (Af (Ax Fd (Ac 4) (Ax Cu (Ac 5) (Ax HH Ah (Ac 4)))) (Af (Ac 3) Aj)))))))))))⟩
theorem AFc : Gw = BZ 1 1 qI := by rfl
theorem ALD : Bq ["height"] ["height"] (Av QX) := by walk_at "sc"
theorem AIg (Ve : Def K mg "_law_two" QX ["height"]) (T : Txt K mg CK)  : Callee P w K mg base 1 "_law_two" ["height"] (Ay K 1 Gw) := by
  refine Def.DP (AFc) Ve ALD rfl rfl fun f c A o s H E hr => ?_
  have hu := CN hr
  exact ⟨_, (BX (Ce (Bu rfl (JL.je (DY (Af Ah (Af Ah (Af Ah (Af Ah (Af Ah Aj))))))) (Ac 0) (fun _ _ => rfl))))⟩
theorem ABN : JK = Dh 4 9 ZP := by rfl
theorem Qp : Bq ["bounds", "height", "cell", "many", "size", "left", "shelf", "k", "amount"] ["bounds", "height", "cell", "many"] (Av Ot) := by walk_at "sc"
theorem ACt (Vq : Def K mg "_law_filled" Ot ["bounds", "height", "cell", "many"]) (T : Txt K mg CK) (Oz : Callee P w K mg base 1 "_law_mixed" ["cell", "k"] (Ay K 2 KH)) (Ig : Callee P w K mg base 1 "_law_two" ["height"] (Ay K 1 Gw)) : Callee P w K mg base 2 "_law_filled" ["bounds", "height", "cell", "many"] (CT K 4 JK) := by
  refine Def.Hl (ABN) Vq Qp rfl rfl fun f c A o s H E hr => ?_
  have hu := CN hr
  exact ⟨_, (BR (CZ (i := 4) Qp.nd rfl (Or.inl rfl) (Ax Ei (Bv Ig (Bs _ _ _) hr rfl (Af (Ac 1) Aj)) (Bu rfl (Ac 0) Ah (fun _ _ => rfl))))
    (BR (T6 (i := 5) Qp.nd rfl (Or.inl rfl) (AIc hr.hd rfl T.Jp rfl T.Kr (Af (Ac 4) Aj)))
    (BR (wK 1000000 PassesOwn.never (Cz bN (Du (Ew rfl) (by rfl) T.Ex (by rfl) (Af (Ac 5) Aj)) (Du (tE rfl) (by rfl) T.jM (by rfl) (Af Ah (Af (Ac 3) Aj))) (CW _))
      (BX (ADV 5 (Ax Cu (Ax Eb (Bv Oz (Bs _ _ _) hr rfl (Af (Ac 2) (Af (Du (Ew rfl) (by rfl) T.Ex (by rfl) (Af (Ac 5) Aj)) Aj))) Ah) (Du (Ew rfl) (by rfl) T.Ex (by rfl) (Af (Ac 5) Aj))) rfl)))
    (BR (RX (i := 6) vL WT ["place"] [] Qp.nd rfl (Or.inl rfl) rfl (Qu rfl T.Kr (Af (Ac 4) Aj)) trivial (G6 (by decide)) (fun _ _ _ _ => G5 (i := 0) (show (["place"] : List Str).Nodup by decide +kernel) rfl (Or.inl rfl) (Or.inr rfl)) (fun _ _ _ _ => Ie) (fun _ _ _ _ => (Cv Aj)) rfl (by decide) (by decide) (Hh (by decide)) (by rfl))
    (BR (AMj PassesOwn.never rfl rfl T.Kr (Af (Du (Ew rfl) (by rfl) T.Ex (by rfl) (Af (Ac 5) Aj)) Aj) (Wv (i := 7) Qp.nd rfl (Or.inl rfl))
      (BR (CZ (i := 8) Qp.nd rfl (Or.inl rfl) (Ax HH (Ax Cu (Bv Oz (Bs _ _ _) hr rfl (Af (Ac 2) (Af (Ac 7) Aj))) (Bu rfl (JL.je (DY (Af (Ax Ui Ah Ah) (Af Ah Aj)))) (Ax Cu (Ac 7) Ah) (fun _ _ => rfl))) Ah))
      (BX (Yw 6 (Cv (Af (Ax HH (Ax Ei (Ax Ei Ah (Ac 7)) (Bu rfl (JL.je (DY (Af Ah (Af (Ax Ui Ah Ah) Aj)))) (Ax Cu (Ac 2) Ah) (fun _ _ => rfl))) (Ax Cu (Ac 2) (Ax Ui Ah Ah))) (Af (Ac 8) Aj))) (Bu rfl (Ac 5) (Ac 7) (fun _ _ => rfl))))))
    (BX (T8 6)))))))⟩
theorem AJ3 : Ko = Dh 4 8 eX := by rfl
theorem Rj : Bq ["cell", "k", "size", "things", "area", "place", "number", "key"] ["cell", "k", "size", "things"] (Av Oi) := by walk_at "sc"
theorem AGg (Vs : Def K mg "_law_area" Oi ["cell", "k", "size", "things"]) (T : Txt K mg CK) (Oz : Callee P w K mg base 1 "_law_mixed" ["cell", "k"] (Ay K 2 KH)) : Callee P w K mg base 2 "_law_area" ["cell", "k", "size", "things"] (CT K 4 Ko) := by
  refine Def.Hl (AJ3) Vs Rj rfl rfl fun f c A o s H E hr => ?_
  have hu := CN hr
  exact ⟨_, (BR (T6 (i := 4) Rj.nd rfl (Or.inl rfl) (DY Aj))
    (BR (RK PassesOwn.never rfl (Qu rfl T.Kr (Af (Ac 2) Aj)) (Wv (i := 5) Rj.nd rfl (Or.inl rfl))
      (BR (CZ (i := 6) Rj.nd rfl (Or.inl rfl) (Bv Oz (Bs _ _ _) hr rfl (Af (Ac 0) (Af (Ax Fd (Ax Fd (Ax Ei Ah (Ac 5)) (Ac 1)) Ah) Aj))))
      (BR (CZ (i := 7) Rj.nd rfl (Or.inl rfl) (Ax HH (Ax Cu (Ax Eb (Ac 6) Ah) Ah) Ah))
      (BR (Ed (JW.jt (Sx (Cz (GZ rfl hu) (Ac 3) (JL.je (DY Aj)) (CW _)) (R7 (Cz (Fg rfl hu) (Ax Cu (Ax Eb (Ac 6) Ah) Ah) Ah (CW _)))))
        (BX (CZ (i := 7) Rj.nd rfl (Or.inl rfl) (Ax HH (Ax Fd (Bu rfl (Bu rfl (Ac 3) (Ax Cu (Ax Eb (Ac 6) Ah) (Du (Ew rfl) (by rfl) T.Ex (by rfl) (Af (Ac 3) Aj))) (fun _ _ => rfl)) Ah (fun _ _ => rfl)) (Ax Cu (Ax Eb (Ac 6) Ah) Ah)) Ah))) Eh)
      (BX (j8 4 (Bu rfl (JL.je (DY (Af (Cv Aj) (Af (Cv (Af (Ac 7) (Af (Ax Cu (Ax Eb (Ac 6) Ah) (Ax Ui Ah Ah)) Aj))) Aj)))) (rA ABx (by rfl) T.m5 (by rfl) (Af (K1 bN (Ax Cu (Ac 6) Ah) Ah (CW _)) Aj)) (fun _ _ => rfl)) rfl))))))
    (BX (T8 4))))⟩
theorem ALV : Mw = Dh 5 7 Y5 := by rfl
theorem Za : Bq ["bounds", "height", "which", "shelf", "cell", "things", "areas"] ["bounds", "height", "which", "shelf", "cell"] (Av Pn) := by walk_at "sc"
theorem AL1 (Vy : Def K mg "_law_disk" Pn ["bounds", "height", "which", "shelf", "cell"]) (T : Txt K mg CK) (Zt : Callee P w K mg base 2 "_law_area" ["cell", "k", "size", "things"] (CT K 4 Ko)) (Ig : Callee P w K mg base 2 "_law_two" ["height"] (Ay K 1 Gw)) : Callee P w K mg base 3 "_law_disk" ["bounds", "height", "which", "shelf", "cell"] (CT K 5 Mw) := by
  refine Def.Hl (ALV) Vy Za rfl rfl fun f c A o s H E hr => ?_
  have hu := CN hr
  exact ⟨_, (BR (CZ (i := 5) Za.nd rfl (Or.inr rfl) (JL.je (J6 ["thing"] [] rfl (Hq rfl (Ac 3)) trivial (G6 (by decide)) (fun _ _ _ _ => G5 (i := 0) (show (["thing"] : List Str).Nodup by decide +kernel) rfl (Or.inl rfl) (Or.inr rfl)) (fun _ _ _ _ => (Rh (Cz (GZ rfl hu) (Ac 0) (Cv Aj) (CW _)))) (fun _ _ _ _ => (Ac 0)) rfl (by decide) (by decide) (Hh (by decide)))))
    (BR (RX (i := 6) vL WT ["k"] [(4, "cell"), (5, "things"), (0, "bounds")] Za.nd rfl (Or.inl rfl) rfl (Qu rfl T.Kr (Af Ah Aj)) ⟨⟨rfl, Or.inl rfl, Or.inl rfl⟩, ⟨⟨rfl, Or.inl rfl, Or.inl rfl⟩, ⟨⟨rfl, Or.inl rfl, Or.inl rfl⟩, trivial⟩⟩⟩ (G6 (by decide)) (fun _ _ _ _ => G5 (i := 0) (show (["k", "cell", "things", "bounds"] : List Str).Nodup by decide +kernel) rfl (Or.inl rfl) (Or.inr rfl)) (fun _ _ _ _ => Ie) (fun _ _ _ _ => (JL.je (HJ Zt (Fv _ _ _) hr rfl (Af (Ac 1) (Af (Ac 0) (Af (Ax Ei (Bv Ig (Bs _ _ _) hr rfl (Af (Bu rfl (Ac 3) Ah (fun _ _ => rfl)) Aj)) (Bu rfl (Ac 3) Ah (fun _ _ => rfl))) (Af (Ac 2) Aj))))))) rfl (by decide) (by decide) (by rfl) (by rfl))
    (BR (AKE 6 (Rw rfl (Ac 3) (JL.je (Le rfl (Bu rfl (Ac 6) (Ac 2) (fun _ _ => rfl)) (KN (Du (Ew rfl) (by rfl) T.Ex (by rfl) (Af (Ac 3) Aj))) Nq))) (Ac 2))
    (BX (Jq (DY (Af (Bu rfl (Ac 6) Ah (fun _ _ => rfl)) (Af (Bu rfl (Ac 6) Ah (fun _ _ => rfl)) (Af (JL.je (DY (Af (Cv (Af (Ac 2) (Af (Ac 1) Aj))) Aj))) Aj)))))))))⟩
theorem AHF : Jc = BZ 2 2 aV := by rfl
theorem AOX : Bq ["bounds", "height"] ["bounds", "height"] (Av Qf) := by walk_at "sc"
theorem AKc (Uu : Def K mg "_law_cap" Qf ["bounds", "height"]) (T : Txt K mg CK) (Ig : Callee P w K mg base 1 "_law_two" ["height"] (Ay K 1 Gw)) : Callee P w K mg base 2 "_law_cap" ["bounds", "height"] (Ay K 2 Jc) := by
  refine Def.DP (AHF) Uu AOX rfl rfl fun f c A o s H E hr => ?_
  have hu := CN hr
  exact ⟨_, (BX (Ce (Ax Ei (Bv Ig (Bs _ _ _) hr rfl (Af (Ac 1) Aj)) (Ax HH (Bu rfl (Ac 0) Ah (fun _ _ => rfl)) (Ax Ei (Ac 1) (Bu rfl (Ac 0) Ah (fun _ _ => rfl)))))))⟩
theorem zZ : Mz = Dh 2 7 Wa := by rfl
theorem QD : Bq ["shelf", "cell", "slab", "full", "here", "free", "place"] ["shelf", "cell"] (Av N7) := by walk_at "sc"
theorem AEc (T3 : Def K mg "_law_doubled" N7 ["shelf", "cell"]) (T : Txt K mg CK)  : Callee P w K mg base 1 "_law_doubled" ["shelf", "cell"] (CT K 2 Mz) := by
  refine Def.Hl (zZ) T3 QD rfl rfl fun f c A o s H E hr => ?_
  have hu := CN hr
  exact ⟨_, (BR (T6 (i := 2) QD.nd rfl (Or.inl rfl) (Sd (Q4 rfl) (by rfl) T.Jp (by rfl) (Af (Ac 0) Aj)))
    (BR (RX (i := 3) Ho Ws ["place"] [(0, "shelf")] QD.nd rfl (Or.inl rfl) rfl (Qu rfl T.Kr (Af (Du (Ew rfl) (by rfl) T.Ex (by rfl) (Af (Ac 0) Aj)) Aj)) ⟨⟨rfl, Or.inl rfl, Or.inl rfl⟩, trivial⟩ (G6 (by decide)) (fun _ _ _ _ => G5 (i := 0) (show (["place", "shelf"] : List Str).Nodup by decide +kernel) rfl (Or.inl rfl) (Or.inr rfl)) (fun _ _ _ _ => (Rh (Cz (GZ rfl hu) (Bu rfl (Ac 1) (Ac 0) (fun _ _ => rfl)) (Cv Aj) (CW _)))) (fun _ _ _ _ => (Ac 0)) rfl (by decide) (by decide) (by rfl) (by rfl))
    (BR (Ed (Cz (Fg rfl hu) (Ac 3) (JL.je (DY Aj)) (CW _))
      (BX (T8 2)) Eh)
    (BR (CZ (i := 4) QD.nd rfl (Or.inl rfl) (Bu rfl (Ac 3) (Ax Cu (Ac 1) (Du (Ew rfl) (by rfl) T.Ex (by rfl) (Af (Ac 3) Aj))) (fun _ _ => rfl)))
    (BR (T6 (i := 5) QD.nd rfl (Or.inl rfl) (DY (Af (Ac 4) Aj)))
    (BR (CZ (i := 6) QD.nd rfl (Or.inl rfl) (Ax HH (Ax Fd (Ac 4) Ah) (Ax Ei Ah (Ax Cu (Ax Eb (Ac 1) Ah) Ah))))
    (BR (wK 1000000 PassesOwn.never (JW.jt (Sx (WQ Iw Vt Ah (Ac 6) (Du (Ew rfl) (by rfl) T.Ex (by rfl) (Af (Ac 0) Aj))) (R7 (Cz (Fg rfl hu) (Bu rfl (Ac 0) (Ac 6) (fun _ _ => rfl)) (Cv Aj) (CW _)))))
      (BR (j8 5 (Ac 6) rfl)
      (BX (CZ (i := 6) QD.nd rfl (Or.inl rfl) (Ax HH (Ax Fd (Ac 6) Ah) (Ax Ei Ah (Ax Cu (Ax Eb (Ac 1) Ah) Ah)))))))
    (BR (Yw 2 (Bu rfl (Ac 0) (Ac 4) (fun _ _ => rfl)) (Bu rfl (Ac 5) (Ax Cu (Ax Eb (Ac 1) Ah) (Du (Ew rfl) (by rfl) T.Ex (by rfl) (Af (Ac 5) Aj))) (fun _ _ => rfl)))
    (BX (T8 2))))))))))⟩
theorem ACw : Rm = BZ 2 6 Yj := by rfl
theorem Xo : Bq ["bounds", "number", "top", "width", "step", "odd"] ["bounds", "number"] (Av QB) := by walk_at "sc"
theorem AEi (Uk : Def K mg "_law_no_bounds" QB ["bounds", "number"]) (T : Txt K mg CK)  : Callee P w K mg base 1 "_law_no_bounds" ["bounds", "number"] (Ay K 2 Rm) := by
  refine Def.DP (ACw) Uk Xo rfl rfl fun f c A o s H E hr => ?_
  have hu := CN hr
  exact ⟨_, (BR (pY (Ac 0) (uJ (i := 2) (j := 3) (l := 4) rfl rfl Xo.nd rfl (Or.inl rfl) rfl (Or.inl rfl) rfl (Or.inl rfl)))
    (BR (CZ (i := 5) Xo.nd rfl (Or.inl rfl) (JL.je (DY (Af QQ (Af (JL.je (DY (Af (Ac 2) (Af (Ac 3) (Af (Ac 4) Aj))))) (Af (Cv (Af (Ac 2) (Af (Ac 3) Aj))) (Af (Cv (Af Ah (Af (Ac 3) (Af (Ac 4) Aj)))) (Af (Cv (Af (AMP Ah) (Af (Ac 3) (Af (Ac 4) Aj)))) (Af (Cv (Af (Ac 2) (Af Ah (Af (Ac 4) Aj)))) Aj)))))))))
    (BR (CZ (i := 5) Xo.nd rfl (Or.inl rfl) (JL.je (Rw rfl (Ac 5) (JL.je (DY (Af (Cv (Af (Ac 2) (Af (Ax HH (Ax Ei (Ac 4) (Ax Fd (Ac 2) Ah)) Ah) (Af (Ac 4) Aj)))) (Af (Cv (Af (Ac 2) (Af (Ac 3) (Af Ah Aj)))) (Af (Cv (Af Et (Af (Ac 3) (Af (Ac 4) Aj)))) (Af (Cv (Af (Ac 2) (Af AIv (Af (Ac 4) Aj)))) Aj)))))))))
    (BX (Ce (Bu rfl (Ac 5) (Ax Cu (Ac 1) Ah) (fun _ _ => rfl)))))))⟩
theorem ADN : IK = BZ 3 9 wQ := by rfl
theorem RV : Bq ["bounds", "disk", "number", "bad", "way", "which", "height", "size", "area"] ["bounds", "disk", "number"] (Av NZ) := by walk_at "sc"
theorem ADL (UJ : Def K mg "_law_no_disk" NZ ["bounds", "disk", "number"]) (T : Txt K mg CK) (Qg : Callee P w K mg base 2 "_law_cap" ["bounds", "height"] (Ay K 2 Jc)) (Su : Callee P w K mg base 2 "_law_filled" ["bounds", "height", "cell", "many"] (CT K 4 JK)) (Ig : Callee P w K mg base 2 "_law_two" ["height"] (Ay K 1 Gw)) : Callee P w K mg base 3 "_law_no_disk" ["bounds", "disk", "number"] (Ay K 3 IK) := by
  refine Def.DP (ADN) UJ RV rfl rfl fun f c A o s H E hr => ?_
  have hu := CN hr
  exact ⟨_, (BR (uB (i := 3) ["part"] [] RV.nd rfl (Or.inl rfl) rfl (Hq rfl (Ac 1)) trivial (G6 (by decide)) (fun _ _ _ _ => G5 (i := 0) (show (["part"] : List Str).Nodup by decide +kernel) rfl (Or.inl rfl) (Or.inr rfl)) (fun _ _ _ _ => Ie) (fun _ _ _ _ => (Sd (Q4 rfl) (by rfl) T.Jp (by rfl) (Af (Ac 0) Aj))) rfl (by decide) (by decide) (Hh (by decide)) (by rfl))
    (BR (CZ (i := 4) RV.nd rfl (Or.inl rfl) (Ax Cu (Ac 2) Ah))
    (BR (pY (Bu rfl (Bu rfl (Ac 1) Ah (fun _ _ => rfl)) Ah (fun _ _ => rfl)) (gK (i := 5) (j := 6) rfl rfl RV.nd rfl (Or.inl rfl) rfl (Or.inl rfl)))
    (BR (CZ (i := 7) RV.nd rfl (Or.inl rfl) (Ax Ei (Bv Ig (Bs _ _ _) hr rfl (Af (Ac 6) Aj)) (Bu rfl (Ac 0) Ah (fun _ _ => rfl))))
    (BR (Ed (Cz (Fg rfl hu) (Ac 4) Ah (CW _))
      (BX (Ce (Bu rfl (JL.je (DY (Af QQ (Af (rA (AGA rfl) (by rfl) T.Wj (by rfl) (Af (Ac 3) Aj)) (Af (JL.je (Le rfl (Ac 3) Nq (KN Ah))) (Af (JL.je (DY Aj)) Aj)))))) (Ax Cu (Ax Eb (Ac 2) Ah) Ah) (fun _ _ => rfl)))) Eh)
    (BR (Ed (Cz (Fg rfl hu) (Ac 4) Ah (CW _))
      (BX (ABz 3 (AFf rfl (AKh (Xx (DY (Af (Cv (Af Ah (Af Ah Aj))) Aj)) (Xx (DY (Af (Cv (Af Ah (Af (Ax Fd (Bu rfl (Ac 0) Ah (fun _ _ => rfl)) Ah) Aj))) Aj)) (Xx (DY (Af (Cv (Af Ah (Af Ah Aj))) (Af (Cv (Af Ah (Af Ah Aj))) Aj))) (Xx (DY (Af QQ Aj)) AGv))))) (Ax Cu (Ax Eb (Ac 2) Ah) Ah) (fun _ _ => rfl)) Ah)) Eh)
    (BR (Ed (Cz (Fg rfl hu) (Ac 4) Ah (CW _))
      (BX (ADp 3 (Ax Cu (Ax Eb (Ac 2) Ah) Ah) (Cv Aj) rfl (fun _ _ => rfl))) Eh)
    (BR (Ed (Cz (Fg rfl hu) (Ac 4) Ah (CW _))
      (BX (AHV 3 (Ax Cu (Ax Eb (Ac 2) Ah) Ah) rfl (fun _ _ => rfl))) Eh)
    (BR (Ed (JW.jt (Kz (Cz (Fg rfl hu) (Ac 4) Ah (CW _)) (Kz (JW.jt (Sx (Cz (Fg rfl hu) (Ac 4) Ah (CW _)) (R7 (Cz Vt (Ac 7) Ah (CW _))))) (MT (JW.jt (Sx (Cz (Fg rfl hu) (Ac 4) Ah (CW _)) (R7 (Cz (Fg rfl hu) (Ac 6) Ah (CW _)))))))))
      (BX (cI 3 (Rw rfl (JL.je (DY (Af (Cv (Af Ah (Af Ah Aj))) (Af (Cv (Af Ah (Af Ah Aj))) Aj)))) (JL.je (Le rfl (Bu rfl (Ac 3) (Ac 5) (fun _ _ => rfl)) (KN Ah) Nq))) (Ac 5)))
      (BX (Ed (Cz (Fg rfl hu) (Ac 4) Ah (CW _))
        (BX (cI 3 (Rw rfl (JL.je (DY (Af (Cv (Af Ah (Af Ah Aj))) (Af (Cv (Af Ah (Af Ah Aj))) (Af (Cv (Af Ah (Af Ah Aj))) (Af (Cv (Af Ah (Af Ah Aj))) Aj)))))) (JL.je (Le rfl (Bu rfl (Ac 3) (Ac 5) (fun _ _ => rfl)) (KN Ah) Nq))) (Ac 5)))
        (BX (Ed (Cz (Fg rfl hu) (Ac 4) Ah (CW _))
          (BX (cI 3 (Rw rfl (JL.je (HJ Su (Fv _ _ _) hr rfl (Af (Ac 0) (Af (Ac 6) (Af (Ac 2) (Af (Ax Fd (Bv Qg (Bs _ _ _) hr rfl (Af (Ac 0) (Af (Ac 6) Aj))) Ah) Aj)))))) (JL.je (Le rfl (Bu rfl (Ac 3) (Ac 5) (fun _ _ => rfl)) (KN (Ac 7)) Nq))) (Ac 5)))
          (BX (Ed (Cz bN (Ac 4) Ah (CW _))
            (BR (CZ (i := 8) RV.nd rfl (Or.inl rfl) (Ax Cu (Ax Eb (Ac 2) Ah) Ah))
            (BX (rE 3 (Bu rfl (JL.je (DY (Af QQ (Af (Cv (Af Ah (Af Ah (Af Ah Aj)))) (Af (JL.je (DY (Af Ah (Af Ah Aj)))) Aj))))) (Ax HH (Ac 4) Ah) (fun _ _ => rfl)) rfl (Ac 8) (Ax Cu (Ax Eb (Ac 2) Ah) (Du (Ew rfl) (by rfl) T.Ex (by rfl) (Af (Bu rfl (Ac 3) (Ac 8) (fun _ _ => rfl)) Aj))) (fun _ _ => rfl)))) Eh)))))))
    (BX (Ce (Ac 3))))))))))))⟩
theorem AHp : HN = BZ 2 4 Wk := by rfl
theorem Xz : Bq ["bounds", "disk", "kinds", "e"] ["bounds", "disk"] (Av O6) := by walk_at "sc"
theorem AG0 (VB : Def K mg "_law_kinds" O6 ["bounds", "disk"]) (T : Txt K mg CK) (R6 : DR P w K mg base 7 CK "__init__" ["self", "bounds", "disk"] (GR K 3 Fz)) (dJ : K4 P w K mg base 7 CK "__init__" ["self", "bounds", "disk"] (Q9 K 3 mg K8)) {Dc C1 C2 d1 d2 d3 d4 : Addr} (kf : KF K mg Dc C1 C2 d1 d2 d3 d4) : Callee P w K mg base 9 "_law_kinds" ["bounds", "disk"] (Ay K 2 HN) := by
  refine Def.DP (AHp) VB Xz rfl rfl fun f c A o s H E hr => ?_
  have hu := CN hr
  exact ⟨_, (BR (CZ (i := 2) Xz.nd rfl (Or.inl rfl) (JL.je (DY Aj)))
    (BR (ADx 2 3 kf.kc rfl rfl Xz.nd rfl rfl rfl kf.m0 kf.x0 (fun C hC => (kf.ek C hC).2.2) (AKU T.ob rfl rfl R6 dJ (WR _ _ _) (ABQ _ _ _) T.mks T.kp rfl hr rfl T.mgK (Af (Ac 0) (Af (Ac 1) Aj)))
      (fun a C hC => gJ (cL (i := 2) Xz.nd rfl (Or.inl rfl) (cT (Eo (Qo (YC (kf.ek C hC).1 (kf.ek C hC).2.1) (by rfl) T.Ia (by rfl) (Eo (pv 3) (Eo (Nt rfl kf.kc.m1 rfl) HY))) (Eo (Qo (YC (kf.ek C hC).1 (kf.ek C hC).2.1) (by rfl) T.Ia (by rfl) (Eo (pv 3) (Eo (Nt rfl kf.kc.m2 rfl) HY))) (Eo (Qo (YC (kf.ek C hC).1 (kf.ek C hC).2.1) (by rfl) T.Ia (by rfl) (Eo (pv 3) (Eo (qT (Eo (Nt rfl kf.t1 rfl) (Eo (Nt rfl kf.t2 rfl) (Eo (Nt rfl kf.t3 rfl) (Eo (Nt rfl kf.t4 rfl) HY))))) HY))) HY))))) (d8 (JS.pe (pG 2 (Qo (YC (kf.ek C hC).1 (kf.ek C hC).2.1) (by rfl) T.Ia (by rfl) (Eo (pv 3) (Eo (iV rfl T.AJa (by rfl) rfl) HY))) (AMz (K := K)) rfl)))))
    (BX (Ce (Ac 2)))))⟩
theorem AMN : Rf = BZ 1 11 YW := by rfl
theorem Io : Bq ["script", "bounds", "cell", "height", "shelf", "things", "disk", "handed", "keeper", "bad", "none"] ["script"] (Av Pb) := by walk_at "sc"
theorem AN2 (Qw : Def K mg "law" Pb ["script"]) (T : Txt K mg CK) (R6 : DR P w K mg base 8 CK "__init__" ["self", "bounds", "disk"] (GR K 3 Fz)) (dY : DR P w K mg base 9 CK "rows" ["self"] (CT K 1 Qh)) (Ym : Callee P w K mg base 9 "_law_bounds" ["cell"] (Ay K 1 Qe)) (Qg : Callee P w K mg base 9 "_law_cap" ["bounds", "height"] (Ay K 2 Jc)) (fQ : Callee P w K mg base 9 "_law_cell" ["script", "k"] (Ay K 2 Rk)) (ZX : Callee P w K mg base 9 "_law_disk" ["bounds", "height", "which", "shelf", "cell"] (CT K 5 Mw)) (cQ : Callee P w K mg base 9 "_law_doubled" ["shelf", "cell"] (CT K 2 Mz)) (Su : Callee P w K mg base 9 "_law_filled" ["bounds", "height", "cell", "many"] (CT K 4 JK)) (Qm : Callee P w K mg base 9 "_law_kinds" ["bounds", "disk"] (Ay K 2 HN)) (Yt : Callee P w K mg base 9 "_law_no_bounds" ["bounds", "number"] (Ay K 2 Rm)) (d9 : Callee P w K mg base 9 "_law_no_disk" ["bounds", "disk", "number"] (Ay K 3 IK)) (RL : Callee P w K mg base 9 "_law_spread" ["cell"] (Ay K 1 Jz)) : Callee P w K mg base 10 "law" ["script"] (Ay K 1 Rf) := by
  refine Def.DP (AMN) Qw Io rfl rfl fun f c A o s H E hr => ?_
  have hu := CN hr
  exact ⟨_, (BR (CZ (i := 1) Io.nd rfl (Or.inl rfl) (Bv Ym (Bs _ _ _) hr rfl (Af (Bv fQ (Bs _ _ _) hr rfl (Af (Ac 0) (Af Ah Aj))) Aj)))
    (BR (RK PassesOwn.never rfl (Hq rfl (JL.je (J6 ["one"] [] rfl (Hq rfl (JL.je (Rw rfl (JL.je (DY (Af Ah Aj))) (JL.je (Le rfl (Ac 0) (KN Ah) (KN Ah)))))) trivial (G6 (by decide)) (fun _ _ _ _ => G5 (i := 0) (show (["one"] : List Str).Nodup by decide +kernel) rfl (Or.inl rfl) (Or.inr rfl)) (fun _ _ _ _ => Ie) (fun _ _ _ _ => (Bv RL (Bs _ _ _) hr rfl (Af (Ac 0) Aj))) rfl (by decide) (by decide) (Hh (by decide))))) (Wv (i := 2) Io.nd rfl (Or.inl rfl))
      (BR (CZ (i := 3) Io.nd rfl (Or.inl rfl) (Ax Cu (Ax Eb (Ac 2) Ah) (Ax Fd (Bu rfl (Ac 1) Ah (fun _ _ => rfl)) Ah)))
      (BR (CZ (i := 4) Io.nd rfl (Or.inl rfl) (JL.je (HJ Su (Fv _ _ _) hr rfl (Af (Ac 1) (Af (Ac 3) (Af (Ac 2) (Af (Ax HH (Bv Qg (Bs _ _ _) hr rfl (Af (Ac 1) (Af (Ac 3) Aj))) (Ax Cu (Ax Eb (Ac 2) Ah) Ah)) Aj)))))))
      (BR (RX (i := 5) Ho Ws ["thing"] [] Io.nd rfl (Or.inl rfl) rfl (Hq rfl (Ac 4)) trivial (G6 (by decide)) (fun _ _ _ _ => G5 (i := 0) (show (["thing"] : List Str).Nodup by decide +kernel) rfl (Or.inl rfl) (Or.inr rfl)) (fun _ _ _ _ => (Rh (Cz (GZ rfl hu) (Ac 0) (Cv Aj) (CW _)))) (fun _ _ _ _ => (Ac 0)) rfl (by decide) (by decide) (Hh (by decide)) (by rfl))
      (BR (Ed (Cz (Fg rfl hu) (Ax Cu (Ax Eb (Ac 2) Ah) Ah) Ah (CW _))
        (BX (CZ (i := 4) Io.nd rfl (Or.inl rfl) (JL.je (HJ cQ (Fv _ _ _) hr rfl (Af (Ac 4) (Af (Ax Eb (Ac 2) Ah) Aj)))))) Eh)
      (BR (CZ (i := 6) Io.nd rfl (Or.inl rfl) (JL.je (HJ ZX (Fv _ _ _) hr rfl (Af (Ac 1) (Af (Ac 3) (Af (Ax Cu (Ax Eb (Ac 2) Ah) Ah) (Af (Ac 4) (Af (Ac 2) Aj))))))))
      (BR (RX (i := 7) Ho Ws ["part"] [] Io.nd rfl (Or.inl rfl) rfl (Hq rfl (Ac 6)) trivial (G6 (by decide)) (fun _ _ _ _ => G5 (i := 0) (show (["part"] : List Str).Nodup by decide +kernel) rfl (Or.inl rfl) (Or.inr rfl)) (fun _ _ _ _ => Ie) (fun _ _ _ _ => (JL.je (Sd (Q4 rfl) (by rfl) T.Jp (by rfl) (Af (Ac 0) Aj)))) rfl (by decide) (by decide) (Hh (by decide)) (by rfl))
      (BR (CZ (i := 8) Io.nd rfl (Or.inl rfl) (AAg T.ob rfl T.mks T.kp R6 (WR _ _ _) hr rfl T.mgK (Af (Ac 1) (Af (Ac 7) Aj))))
      (BR (Ed (JW.jt (Kz (Cz (GZ rfl hu) (JL.je (Xk rfl T.ob.ns T.ob.cl dY (Fv _ _ _) hr (Ac 8))) (Ac 5) (CW _)) (MT (Cz (GZ rfl hu) (Ac 7) (Ac 6) (CW _)))))
        (BX (Ce Et)) Eh)
      (BR (CZ (i := 9) Io.nd rfl (Or.inl rfl) (Bv d9 (Bs _ _ _) hr rfl (Af (Ac 1) (Af (Ac 6) (Af (Ax Eb (Ac 2) Ah) Aj)))))
      (BR (CZ (i := 10) Io.nd rfl (Or.inl rfl) (Bv Yt (Bs _ _ _) hr rfl (Af (Ac 1) (Af (Ax Eb (Ac 2) Ah) Aj))))
      (BR (Ed (JW.jt (Kz (Cz (GZ rfl hu) (Bv Qm (Bs _ _ _) hr rfl (Af (Ac 10) (Af (Ac 6) Aj))) (JL.je (DY (Af Et (Af Et (Af Et (Af Et Aj)))))) (CW _)) (MT (Cz (GZ rfl hu) (Bv Qm (Bs _ _ _) hr rfl (Af (Ac 10) (Af (Ac 9) Aj))) (JL.je (DY (Af Et (Af Et (Af Et (Af Et Aj)))))) (CW _)))))
        (BX (Ce Et)) Eh)
      (BX (Ed (JW.jt (Kz (Cz (GZ rfl hu) (Bv Qm (Bs _ _ _) hr rfl (Af (Ac 1) (Af (Ac 9) Aj))) (JL.je (DY (Af Et (Af Et (Af Et (Af Et Aj)))))) (CW _)) (MT (Cz (GZ rfl hu) (Bv Qm (Bs _ _ _) hr rfl (Af (Ac 1) (Af (Ac 6) Aj))) (JL.je (DY Aj)) (CW _)))))
        (BX (Ce Et)) Eh))))))))))))))
    (BX (Ce Et))))⟩
theorem chain {Dc C1 C2 d1 d2 d3 d4 : Addr} (kf : KF K mg Dc C1 C2 d1 d2 d3 d4) (T : Txt K mg CK) (hl : ∀ ns : List Int, ns.length ≤ 63 → Rf [.list (ns.map PyData.int)] = some (.bool true)) (Ug : Def K mg "is_whole" Pk ["thing"]) (Tf : Def K mg "is_bounds" PQ ["thing"]) (Tu : Def K mg "are_in_range" P0 ["top", "width", "step"]) (U4 : Def K mg "twofold" Nx ["height"]) (Tw : Def K mg "places_of" QT ["bounds", "height"]) (Uv : Def K mg "cap_of" Og ["bounds", "height"]) (U5 : Def K mg "calm_of" Nj ["bounds", "height"]) (Va : Def K mg "is_straight" O8 ["shelf"]) (UL : Def K mg "is_sound" Pj ["shelf"]) (VG : Def K mg "second_place" Pg ["shelf"]) (Th : Def K mg "mended" Px ["shelf"]) (Vc : Def K mg "rows_of" NB ["shelf"]) (Vw : Def K mg "held" Qc ["shelf", "first", "behind"]) (Tp : Def K mg "done" Ow ["shelf", "writes"]) (Tv : Def K mg "beyond" Oo ["number", "bound"]) (Tq : Def K mg "excess_at" Oq ["bounds", "level", "shelf"]) (TJ : Def K mg "excess_of" NP ["bounds", "height", "shelf"]) (Vz : Def K mg "over_of" Oe ["bounds", "height", "shelf"]) (Ur : Def K mg "is_pair" QK ["thing"]) (T9 : Def K mg "is_place" M6 ["thing"]) (Tt : Def K mg "is_area" Np ["thing", "size"]) (Vi : Def K mg "is_sign" O4 ["bounds", "thing"]) (Uc : Def K mg "has_form" QR ["bounds", "thing"]) (VR : Def K mg "is_disk" N6 ["bounds", "thing"]) (Uq : Def K mg "area_on" Ov ["disk"]) (Tg : Def K mg "height_on" Nr ["disk"]) (Ud : Def K mg "shelf_on" M4 ["bounds", "disk"]) (VF : Def K mg "written" Nb ["disk", "writes"]) (Vn : Def K mg "on_area" QW ["area", "writes"]) (Te : Def K mg "mending_writes" O9 ["bounds", "disk"]) (Ms : DG K CK "__init__" "Keeper.__init__" Mh ["self", "bounds", "disk"]) (Uy : DG K CK "come_up" "Keeper.come_up" Om ["self", "disk"]) (Ue : DG K CK "shelf" "Keeper.shelf" M9 ["self"]) (Vm : DG K CK "rows" "Keeper.rows" Nk ["self"]) (U6 : DG K CK "excess" "Keeper.excess" Nm ["self"]) (Ua : DG K CK "over" "Keeper.over" O5 ["self"]) (Vp : Def K mg "_law_cell" Ny ["script", "k"]) (Vu : Def K mg "_law_spread" QS ["cell"]) (T5 : Def K mg "_law_mixed" Nh ["cell", "k"]) (Um : Def K mg "_law_bounds" QL ["cell"]) (Ve : Def K mg "_law_two" QX ["height"]) (Vq : Def K mg "_law_filled" Ot ["bounds", "height", "cell", "many"]) (Vs : Def K mg "_law_area" Oi ["cell", "k", "size", "things"]) (Vy : Def K mg "_law_disk" Pn ["bounds", "height", "which", "shelf", "cell"]) (Uu : Def K mg "_law_cap" Qf ["bounds", "height"]) (T3 : Def K mg "_law_doubled" N7 ["shelf", "cell"]) (Uk : Def K mg "_law_no_bounds" QB ["bounds", "number"]) (UJ : Def K mg "_law_no_disk" NZ ["bounds", "disk", "number"]) (VB : Def K mg "_law_kinds" O6 ["bounds", "disk"]) (Qw : Def K mg "law" Pb ["script"]) : Callee P w K mg base 10 "law" ["script"] (Xv K) := by
  have QH : Callee P w K mg base 1 "is_whole" ["thing"] (Ay K 1 HQ) := AIz Ug T
  have fO : Callee P w K mg base 1 "are_in_range" ["top", "width", "step"] (Ay K 3 Gq) := ALG Tu T
  have Ql : Callee P w K mg base 2 "is_bounds" ["thing"] (Ay K 1 FJ) := ABW Tf T (fO.mono (by decide)) (QH.mono (by decide))
  have Kq : Callee P w K mg base 1 "twofold" ["height"] (Ay K 1 J0) := AEr U4 T
  have Ks : Callee P w K mg base 2 "places_of" ["bounds", "height"] (Ay K 2 J3) := ABj Tw T (Kq.mono (by decide))
  have Ra : Callee P w K mg base 2 "cap_of" ["bounds", "height"] (Ay K 2 MK) := AJ0 Uv T (Kq.mono (by decide))
  have Zg : Callee P w K mg base 2 "calm_of" ["bounds", "height"] (Ay K 2 Q0) := AEJ U5 T (Kq.mono (by decide))
  have cB : Callee P w K mg base 1 "is_straight" ["shelf"] (Ay K 1 Ro) := AHd Va T
  have eO : Callee P w K mg base 1 "done" ["shelf", "writes"] (CT K 2 Oa) := AEI Tp T
  have Rr : Callee P w K mg base 1 "second_place" ["shelf"] (Ay K 1 Il) := AMO VG T
  have Qt : Callee P w K mg base 2 "mended" ["shelf"] (CT K 1 M3) := ALp Th T (eO.mono (by decide)) (Rr.mono (by decide))
  have cD : Callee P w K mg base 3 "is_sound" ["shelf"] (Ay K 1 Qz) := ALh UL T (cB.mono (by decide)) (Qt.mono (by decide))
  have R1 : Callee P w K mg base 3 "rows_of" ["shelf"] (CT K 1 MN) := AAZ Vc T (Qt.mono (by decide))
  have SQ : Callee P w K mg base 1 "held" ["shelf", "first", "behind"] (Ay K 3 J7) := ADW Vw T
  have Sw : Callee P w K mg base 1 "beyond" ["number", "bound"] (Ay K 2 Jr) := ADk Tv T
  have gC : Callee P w K mg base 3 "excess_at" ["bounds", "level", "shelf"] (Ay K 3 Lj) := ANd Tq T (Sw.mono (by decide)) (Zg.mono (by decide)) (SQ.mono (by decide)) (Ks.mono (by decide))
  have fK : Callee P w K mg base 4 "excess_of" ["bounds", "height", "shelf"] (Ay K 3 Od) := AHs TJ T (gC.mono (by decide))
  have cY : Callee P w K mg base 3 "over_of" ["bounds", "height", "shelf"] (Ay K 3 Ou) := AJq Vz T (Sw.mono (by decide)) (Ra.mono (by decide)) (SQ.mono (by decide))
  have Sq : Callee P w K mg base 2 "is_pair" ["thing"] (Ay K 1 KZ) := AAR Ur T (QH.mono (by decide))
  have fY : Callee P w K mg base 3 "is_place" ["thing"] (Ay K 1 Jt) := AOI T9 T (Sq.mono (by decide))
  have W9 : Callee P w K mg base 4 "is_area" ["thing", "size"] (Ay K 2 Py) := AHq Tt T (fY.mono (by decide))
  have eV : Callee P w K mg base 3 "is_sign" ["bounds", "thing"] (Ay K 2 Qk) := AH9 Vi T (Sq.mono (by decide))
  have fG : Callee P w K mg base 5 "has_form" ["bounds", "thing"] (Ay K 2 Jx) := AJy Uc T (W9.mono (by decide)) (eV.mono (by decide)) (Ks.mono (by decide))
  have Ii : Callee P w K mg base 1 "height_on" ["disk"] (Ay K 1 Im) := AGP Tg T
  have Rx : Callee P w K mg base 1 "area_on" ["disk"] (Ay K 1 Ln) := AKR Uq T
  have KY : Callee P w K mg base 3 "shelf_on" ["bounds", "disk"] (CT K 2 IV) := AGT Ud T (Rx.mono (by decide)) (Ii.mono (by decide)) (Ks.mono (by decide))
  have Rt : Callee P w K mg base 6 "is_disk" ["bounds", "thing"] (Ay K 2 Ey) := AH8 VR T (Ra.mono (by decide)) (fG.mono (by decide)) (Ii.mono (by decide)) (cD.mono (by decide)) (R1.mono (by decide)) (KY.mono (by decide))
  have b7 : Callee P w K mg base 1 "written" ["disk", "writes"] (R8 K 2 Mp) := AFh VF T
  have aH : Callee P w K mg base 1 "on_area" ["area", "writes"] (CT K 2 Qa) := AK1 Vn T
  have Yx : Callee P w K mg base 4 "mending_writes" ["bounds", "disk"] (CT K 2 RM) := AGh Te T (Rx.mono (by decide)) (aH.mono (by decide)) (Rr.mono (by decide)) (KY.mono (by decide))
  have KR : DR P w K mg base 4 CK "shelf" ["self"] (CT K 1 JF) := AFI Ue T (KY.mono (by decide))
  have dH : DR P w K mg base 5 CK "excess" ["self"] (Ay K 1 QM) := AK0 U6 T (KR.mono (by decide)) (fK.mono (by decide)) (Ii.mono (by decide))
  have Zv : DR P w K mg base 5 CK "over" ["self"] (Ay K 1 Pa) := AAh Ua T (KR.mono (by decide)) (Ii.mono (by decide)) (cY.mono (by decide))
  have Rb : DR P w K mg base 6 CK "come_up" ["self", "disk"] (GR K 2 Mg) := AIx Uy T (dH.mono (by decide)) (Zv.mono (by decide)) (Yx.mono (by decide)) (b7.mono (by decide))
  have R6 : DR P w K mg base 7 CK "__init__" ["self", "bounds", "disk"] (GR K 3 Fz) := AAt Ms T (Rb.mono (by decide)) (Ql.mono (by decide)) (Rt.mono (by decide))
  have dJ : K4 P w K mg base 7 CK "__init__" ["self", "bounds", "disk"] (Q9 K 3 mg K8) := ABf Ms T (Rb.mono (by decide)) (Ql.mono (by decide)) (Rt.mono (by decide)) kf.kc.m1 kf.x1 kf.kc.m2 kf.x2
  have dY : DR P w K mg base 5 CK "rows" ["self"] (CT K 1 Qh) := AEM Vm T (KR.mono (by decide)) (R1.mono (by decide))
  have fQ : Callee P w K mg base 1 "_law_cell" ["script", "k"] (Ay K 2 Rk) := AAS Vp T
  have RL : Callee P w K mg base 1 "_law_spread" ["cell"] (Ay K 1 Jz) := ALb Vu T
  have Oz : Callee P w K mg base 1 "_law_mixed" ["cell", "k"] (Ay K 2 KH) := AK7 T5 T
  have Ym : Callee P w K mg base 2 "_law_bounds" ["cell"] (Ay K 1 Qe) := ACW Um T (RL.mono (by decide))
  have Ig : Callee P w K mg base 1 "_law_two" ["height"] (Ay K 1 Gw) := AIg Ve T
  have Su : Callee P w K mg base 2 "_law_filled" ["bounds", "height", "cell", "many"] (CT K 4 JK) := ACt Vq T (Oz.mono (by decide)) (Ig.mono (by decide))
  have Zt : Callee P w K mg base 2 "_law_area" ["cell", "k", "size", "things"] (CT K 4 Ko) := AGg Vs T (Oz.mono (by decide))
  have ZX : Callee P w K mg base 3 "_law_disk" ["bounds", "height", "which", "shelf", "cell"] (CT K 5 Mw) := AL1 Vy T (Zt.mono (by decide)) (Ig.mono (by decide))
  have Qg : Callee P w K mg base 2 "_law_cap" ["bounds", "height"] (Ay K 2 Jc) := AKc Uu T (Ig.mono (by decide))
  have cQ : Callee P w K mg base 1 "_law_doubled" ["shelf", "cell"] (CT K 2 Mz) := AEc T3 T
  have Yt : Callee P w K mg base 1 "_law_no_bounds" ["bounds", "number"] (Ay K 2 Rm) := AEi Uk T
  have d9 : Callee P w K mg base 3 "_law_no_disk" ["bounds", "disk", "number"] (Ay K 3 IK) := ADL UJ T (Qg.mono (by decide)) (Su.mono (by decide)) (Ig.mono (by decide))
  have Qm : Callee P w K mg base 9 "_law_kinds" ["bounds", "disk"] (Ay K 2 HN) := AG0 VB T (R6.mono (by decide)) (dJ.mono (by decide)) kf
  have AKN : Callee P w K mg base 10 "law" ["script"] (Ay K 1 Rf) := AN2 Qw T (R6.mono (by decide)) (dY.mono (by decide)) (Ym.mono (by decide)) (Qg.mono (by decide)) (fQ.mono (by decide)) (ZX.mono (by decide)) (cQ.mono (by decide)) (Su.mono (by decide)) (Qm.mono (by decide)) (Yt.mono (by decide)) (d9.mono (by decide)) (RL.mono (by decide))
  exact AKN.yJ hl
end
theorem ln1 {α : Type} {us : List α} (h : us.length = 1) : ∃ a0, us = [a0] := by
  obtain _ | ⟨_, us⟩ := us
  · cases h
  obtain _ | ⟨_, us⟩ := us
  · exact ⟨_, rfl⟩
  · cases h
theorem ln2 {α : Type} {us : List α} (h : us.length = 2) : ∃ a0 a1, us = [a0, a1] := by
  obtain _ | ⟨_, us⟩ := us
  · cases h
  obtain _ | ⟨_, us⟩ := us
  · cases h
  obtain _ | ⟨_, us⟩ := us
  · exact ⟨_, _, rfl⟩
  · cases h
theorem ln3 {α : Type} {us : List α} (h : us.length = 3) : ∃ a0 a1 a2, us = [a0, a1, a2] := by
  obtain _ | ⟨_, us⟩ := us
  · cases h
  obtain _ | ⟨_, us⟩ := us
  · cases h
  obtain _ | ⟨_, us⟩ := us
  · cases h
  obtain _ | ⟨_, us⟩ := us
  · exact ⟨_, _, _, rfl⟩
  · cases h
theorem ln4 {α : Type} {us : List α} (h : us.length = 4) : ∃ a0 a1 a2 a3, us = [a0, a1, a2, a3] := by
  obtain _ | ⟨_, us⟩ := us
  · cases h
  obtain _ | ⟨_, us⟩ := us
  · cases h
  obtain _ | ⟨_, us⟩ := us
  · cases h
  obtain _ | ⟨_, us⟩ := us
  · cases h
  obtain _ | ⟨_, us⟩ := us
  · exact ⟨_, _, _, _, rfl⟩
  · cases h
theorem ln5 {α : Type} {us : List α} (h : us.length = 5) : ∃ a0 a1 a2 a3 a4, us = [a0, a1, a2, a3, a4] := by
  obtain _ | ⟨_, us⟩ := us
  · cases h
  obtain _ | ⟨_, us⟩ := us
  · cases h
  obtain _ | ⟨_, us⟩ := us
  · cases h
  obtain _ | ⟨_, us⟩ := us
  · cases h
  obtain _ | ⟨_, us⟩ := us
  · cases h
  obtain _ | ⟨_, us⟩ := us
  · exact ⟨_, _, _, _, _, rfl⟩
  · cases h
set_option hygiene false
local macro_rules | `(tactic| walk_at "d1") => `(tactic| exact fun _ _ _ _ _ _ us hl => by obtain ⟨_, rfl⟩ := ln1 hl; rfl)
local macro_rules | `(tactic| walk_at "d2") => `(tactic| exact fun _ _ _ _ _ _ us hl => by obtain ⟨_, _, rfl⟩ := ln2 hl; rfl)
local macro_rules | `(tactic| walk_at "d3") => `(tactic| exact fun _ _ _ _ _ _ us hl => by obtain ⟨_, _, _, rfl⟩ := ln3 hl; rfl)
local macro_rules | `(tactic| walk_at "d4") => `(tactic| exact fun _ _ _ _ _ _ us hl => by obtain ⟨_, _, _, _, rfl⟩ := ln4 hl; rfl)
local macro_rules | `(tactic| walk_at "d5") => `(tactic| exact fun _ _ _ _ _ _ us hl => by obtain ⟨_, _, _, _, _, rfl⟩ := ln5 hl; rfl)
set_option hygiene true
theorem all_mk (hl : ∀ ns : List Int, ns.length ≤ 63 → Rf [.list (ns.map PyData.int)] = some (.bool true)) {l : PySem.W.OpenLaw} {w : World} {K : Frag} {h : Heap} {mg : Str → Option Value} {fa : Addr} (X : K.In h) (G : h.Ns mainGlobals mg) (hfa : mg "law" = some (.ref fa)) {AL9 : Tok} {AOM : Tok} {AMl : Tok} {f0 f1 f2 f3 f4 f5 f6 f7 f8 f9 f10 f11 f12 f13 f14 f15 f16 f17 f18 f19 f20 f21 f22 f23 f24 f25 f26 f27 f28 f29 f30 f31 f32 f33 f34 f35 f36 f37 f38 f39 f40 f41 f42 f43 f44 f45 f46 f47 f48 f49 : Addr} {od0 an0 od1 an1 od2 an2 od3 an3 od4 an4 od5 an5 od6 an6 od7 an7 od8 an8 od9 an9 AFo ALS ABP AAc AMy ABT AKG AM4 ADg AM3 ALJ ACd AJQ AIh AOg AL8 AAi AG7 AG4 AL0 AAn ANn AFp ADc ANk AJe AKx ACO ANE AMh AFN AH3 AOA ANP AHj AIt AMk ACq ACX ABO ABq AKL ACs AGa AEh AGW ALP ADb ALC AFj AIV AOT AGY ALl ALc ALo zW AHi AEx AK3 AKT AIr zV AFH AJA ALH AMo AGF AEu ACL AIX ACl AHI AM6 AHO AOW AJl AHJ AGC AHu : Option Addr} {sl0 sl1 sl2 sl3 sl4 sl5 sl6 sl7 sl8 sl9 ADZ AEj AKp AH5 AGZ AKy ALQ AHR AAp AMn ADR AIq AJU ANz AKK ANv AAb AAG AKM AAx AGt AOY AM2 ANC AGJ AFb ACo ANq AJF ACR AFP AM5 ACz AN6 AIP ANh AIp AEt AJO ABM : Array (Option Value)} {oc0 kV0 dc0 pm0 cd0 ct0 oc1 kV1 dc1 pm1 cd1 ct1 oc2 kV2 dc2 pm2 cd2 ct2 oc3 kV3 dc3 pm3 cd3 ct3 oc4 kV4 dc4 pm4 cd4 ct4 oc5 kV5 dc5 pm5 cd5 ct5 oc6 kV6 dc6 pm6 cd6 ct6 oc7 kV7 dc7 pm7 cd7 ct7 oc8 kV8 dc8 pm8 cd8 ct8 oc9 kV9 dc9 pm9 cd9 ct9 zQ z7 AIU ABl tD AOO ABv AKv ACn AKJ wA ANi AJE AH4 AHm AIb rG AHf AEO AH1 AHg AMb qF AEb AGG AHc zT ACv jR ADz AI9 AGU ALw ANW xN ALa ACJ ACh AJr AOL vA AEw AIQ AJC AId AKo uW ALm ANc z9 ADJ AHK kW AGq AIK AJ4 AFK AFU vO AOZ zP ACN AGM AK2 kY AHD AEd AFw AFQ zM yH AMd AN8 AFk ACf AHA oY AOQ ADy AHn AFd ADY iT ACa ACg AAV AEP zO v8 ACp ACV AJs AMf ACi mK AKW AAj ABU AGc AKB sI ADm ADU ADe AG3 AKw uK AFq AIA AK6 AMU AGw iJ AGn AJb AOE AHX AKr qK zG AN4 ANl ABa AJW jZ AIH AN0 AM0 AFG AIW oU AKi AGm AFO AFi AHy tV ALU ANM ALx AGN ANt tG AJg AJ7 ANp AG2 AMg xH AJ9 ADt AMA ABH AKg wL AEH AEZ AIF AKV ANb yZ AGo AHQ ANj ADv ALy uL AHL AN5 AMY AFm AFv rK ADl AMa ADS AKe AI4 tX AJi AJY AFJ ANS AFe yO ANr AEV AFn AJ2 ANw mV ABS AII AMS AFu AFY tH ACx ABy ACU AL2 AMW lG AHT AAr AKu AMH ALd jJ AIl AEm AEp ALk AHC yW AKI AMq AJB ADi AHx pO AFz AKd AKa AOH zL jY AEo AKQ AMZ AKb AME wJ AIu AL3 AIk ANf AEq wB AGI : Value} {CK : Addr} (o0 : nsIn K mainGlobals "Keeper" = some (some (.ref CK))) (o1 : PySem.W.plainGet K CK Str.empty = true) (o2 : PySem.W.hasDictIn K CK = true) (o3 : PySem.W.plainOver K CK = true) (o4 : findIn K (.ref CK) "__setattr__" = some (some (.builtin "object.__setattr__"))) (o5 : findIn K (.ref CK) "__class__" = some (some (.builtin "object.__class__"))) (o6 : PySem.W.specialIn K (.builtin "object.__class__") "__get__" = some (some (.builtin "getset_descriptor.__get__"))) (o7 : PySem.W.takesIn K (.builtin "object.__class__") = some true) (o8 : mroIn K CK (.type "object") = some true) (o9 : makesIn K CK = true) (oa : keepIn K (.ref CK) = true) (ib : kitOne K (.ref CK) (.type "bool") = some false) (ii : kitOne K (.ref CK) (.type "int") = some false) (is : kitOne K (.ref CK) (.type "str") = some false) (il : kitOne K (.ref CK) (.type "list") = some false) (it : kitOne K (.ref CK) (.type "tuple") = some false) (Jj : findIn K (.ref CK) "bounds" = some none) (U8 : findIn K (.ref CK) "first_excess" = some none) (S9 : findIn K (.ref CK) "first_over" = some none) (Ub : findIn K (.ref CK) "laid" = some none) (Lw : findIn K (.ref CK) "lying" = some none) (VP : findIn K (.ref CK) "moves" = some none) (Td : findIn K (.ref CK) "puts" = some none) (a0 : nsIn K mainGlobals "is_whole" = some (some (.ref f0))) (l0 : K.lookup f0 = some ⟨oc0, od0, .func (fnOf "is_whole" "is_whole" (Bw Pk) (Bk Pk) (Av Pk) .none kV0 dc0 pm0 an0 cd0 ct0), sl0⟩) (c0 : codeIn K cd0 "is_whole" = true) (k0 : keepIn K (.ref f0) = true) (a1 : nsIn K mainGlobals "is_bounds" = some (some (.ref f1))) (l1 : K.lookup f1 = some ⟨oc1, od1, .func (fnOf "is_bounds" "is_bounds" (Bw PQ) (Bk PQ) (Av PQ) .none kV1 dc1 pm1 an1 cd1 ct1), sl1⟩) (c1 : codeIn K cd1 "is_bounds" = true) (k1 : keepIn K (.ref f1) = true) (a2 : nsIn K mainGlobals "are_in_range" = some (some (.ref f2))) (l2 : K.lookup f2 = some ⟨oc2, od2, .func (fnOf "are_in_range" "are_in_range" (Bw P0) (Bk P0) (Av P0) .none kV2 dc2 pm2 an2 cd2 ct2), sl2⟩) (c2 : codeIn K cd2 "are_in_range" = true) (k2 : keepIn K (.ref f2) = true) (a3 : nsIn K mainGlobals "twofold" = some (some (.ref f3))) (l3 : K.lookup f3 = some ⟨oc3, od3, .func (fnOf "twofold" "twofold" (Bw Nx) (Bk Nx) (Av Nx) .none kV3 dc3 pm3 an3 cd3 ct3), sl3⟩) (c3 : codeIn K cd3 "twofold" = true) (k3 : keepIn K (.ref f3) = true) (a4 : nsIn K mainGlobals "places_of" = some (some (.ref f4))) (l4 : K.lookup f4 = some ⟨oc4, od4, .func (fnOf "places_of" "places_of" (Bw QT) (Bk QT) (Av QT) .none kV4 dc4 pm4 an4 cd4 ct4), sl4⟩) (c4 : codeIn K cd4 "places_of" = true) (k4 : keepIn K (.ref f4) = true) (a5 : nsIn K mainGlobals "cap_of" = some (some (.ref f5))) (l5 : K.lookup f5 = some ⟨oc5, od5, .func (fnOf "cap_of" "cap_of" (Bw Og) (Bk Og) (Av Og) .none kV5 dc5 pm5 an5 cd5 ct5), sl5⟩) (c5 : codeIn K cd5 "cap_of" = true) (k5 : keepIn K (.ref f5) = true) (a6 : nsIn K mainGlobals "calm_of" = some (some (.ref f6))) (l6 : K.lookup f6 = some ⟨oc6, od6, .func (fnOf "calm_of" "calm_of" (Bw Nj) (Bk Nj) (Av Nj) .none kV6 dc6 pm6 an6 cd6 ct6), sl6⟩) (c6 : codeIn K cd6 "calm_of" = true) (k6 : keepIn K (.ref f6) = true) (a7 : nsIn K mainGlobals "is_straight" = some (some (.ref f7))) (l7 : K.lookup f7 = some ⟨oc7, od7, .func (fnOf "is_straight" "is_straight" (Bw O8) (Bk O8) (Av O8) .none kV7 dc7 pm7 an7 cd7 ct7), sl7⟩) (c7 : codeIn K cd7 "is_straight" = true) (k7 : keepIn K (.ref f7) = true) (a8 : nsIn K mainGlobals "is_sound" = some (some (.ref f8))) (l8 : K.lookup f8 = some ⟨oc8, od8, .func (fnOf "is_sound" "is_sound" (Bw Pj) (Bk Pj) (Av Pj) .none kV8 dc8 pm8 an8 cd8 ct8), sl8⟩) (c8 : codeIn K cd8 "is_sound" = true) (k8 : keepIn K (.ref f8) = true) (a9 : nsIn K mainGlobals "second_place" = some (some (.ref f9))) (l9 : K.lookup f9 = some ⟨oc9, od9, .func (fnOf "second_place" "second_place" (Bw Pg) (Bk Pg) (Av Pg) .none kV9 dc9 pm9 an9 cd9 ct9), sl9⟩) (c9 : codeIn K cd9 "second_place" = true) (k9 : keepIn K (.ref f9) = true) (a10 : nsIn K mainGlobals "mended" = some (some (.ref f10))) (l10 : K.lookup f10 = some ⟨zQ, AFo, .func (fnOf "mended" "mended" (Bw Px) (Bk Px) (Av Px) .none z7 AIU ABl ALS tD AOO), ADZ⟩) (c10 : codeIn K tD "mended" = true) (k10 : keepIn K (.ref f10) = true) (a11 : nsIn K mainGlobals "rows_of" = some (some (.ref f11))) (l11 : K.lookup f11 = some ⟨ABv, ABP, .func (fnOf "rows_of" "rows_of" (Bw NB) (Bk NB) (Av NB) .none AKv ACn AKJ AAc wA ANi), AEj⟩) (c11 : codeIn K wA "rows_of" = true) (k11 : keepIn K (.ref f11) = true) (a12 : nsIn K mainGlobals "held" = some (some (.ref f12))) (l12 : K.lookup f12 = some ⟨AJE, AMy, .func (fnOf "held" "held" (Bw Qc) (Bk Qc) (Av Qc) .none AH4 AHm AIb ABT rG AHf), AKp⟩) (c12 : codeIn K rG "held" = true) (k12 : keepIn K (.ref f12) = true) (a13 : nsIn K mainGlobals "done" = some (some (.ref f13))) (l13 : K.lookup f13 = some ⟨AEO, AKG, .func (fnOf "done" "done" (Bw Ow) (Bk Ow) (Av Ow) .none AH1 AHg AMb AM4 qF AEb), AH5⟩) (c13 : codeIn K qF "done" = true) (k13 : keepIn K (.ref f13) = true) (a14 : nsIn K mainGlobals "beyond" = some (some (.ref f14))) (l14 : K.lookup f14 = some ⟨AGG, ADg, .func (fnOf "beyond" "beyond" (Bw Oo) (Bk Oo) (Av Oo) .none AHc zT ACv AM3 jR ADz), AGZ⟩) (c14 : codeIn K jR "beyond" = true) (k14 : keepIn K (.ref f14) = true) (a15 : nsIn K mainGlobals "excess_at" = some (some (.ref f15))) (l15 : K.lookup f15 = some ⟨AI9, ALJ, .func (fnOf "excess_at" "excess_at" (Bw Oq) (Bk Oq) (Av Oq) .none AGU ALw ANW ACd xN ALa), AKy⟩) (c15 : codeIn K xN "excess_at" = true) (k15 : keepIn K (.ref f15) = true) (a16 : nsIn K mainGlobals "excess_of" = some (some (.ref f16))) (l16 : K.lookup f16 = some ⟨ACJ, AJQ, .func (fnOf "excess_of" "excess_of" (Bw NP) (Bk NP) (Av NP) .none ACh AJr AOL AIh vA AEw), ALQ⟩) (c16 : codeIn K vA "excess_of" = true) (k16 : keepIn K (.ref f16) = true) (a17 : nsIn K mainGlobals "over_of" = some (some (.ref f17))) (l17 : K.lookup f17 = some ⟨AIQ, AOg, .func (fnOf "over_of" "over_of" (Bw Oe) (Bk Oe) (Av Oe) .none AJC AId AKo AL8 uW ALm), AHR⟩) (c17 : codeIn K uW "over_of" = true) (k17 : keepIn K (.ref f17) = true) (a18 : nsIn K mainGlobals "is_pair" = some (some (.ref f18))) (l18 : K.lookup f18 = some ⟨ANc, AAi, .func (fnOf "is_pair" "is_pair" (Bw QK) (Bk QK) (Av QK) .none z9 ADJ AHK AG7 kW AGq), AAp⟩) (c18 : codeIn K kW "is_pair" = true) (k18 : keepIn K (.ref f18) = true) (a19 : nsIn K mainGlobals "is_place" = some (some (.ref f19))) (l19 : K.lookup f19 = some ⟨AIK, AG4, .func (fnOf "is_place" "is_place" (Bw M6) (Bk M6) (Av M6) .none AJ4 AFK AFU AL0 vO AOZ), AMn⟩) (c19 : codeIn K vO "is_place" = true) (k19 : keepIn K (.ref f19) = true) (a20 : nsIn K mainGlobals "is_area" = some (some (.ref f20))) (l20 : K.lookup f20 = some ⟨zP, AAn, .func (fnOf "is_area" "is_area" (Bw Np) (Bk Np) (Av Np) .none ACN AGM AK2 ANn kY AHD), ADR⟩) (c20 : codeIn K kY "is_area" = true) (k20 : keepIn K (.ref f20) = true) (a21 : nsIn K mainGlobals "is_sign" = some (some (.ref f21))) (l21 : K.lookup f21 = some ⟨AEd, AFp, .func (fnOf "is_sign" "is_sign" (Bw O4) (Bk O4) (Av O4) .none AFw AFQ zM ADc yH AMd), AIq⟩) (c21 : codeIn K yH "is_sign" = true) (k21 : keepIn K (.ref f21) = true) (a22 : nsIn K mainGlobals "has_form" = some (some (.ref f22))) (l22 : K.lookup f22 = some ⟨AN8, ANk, .func (fnOf "has_form" "has_form" (Bw QR) (Bk QR) (Av QR) .none AFk ACf AHA AJe oY AOQ), AJU⟩) (c22 : codeIn K oY "has_form" = true) (k22 : keepIn K (.ref f22) = true) (a23 : nsIn K mainGlobals "is_disk" = some (some (.ref f23))) (l23 : K.lookup f23 = some ⟨ADy, AKx, .func (fnOf "is_disk" "is_disk" (Bw N6) (Bk N6) (Av N6) .none AHn AFd ADY ACO iT ACa), ANz⟩) (c23 : codeIn K iT "is_disk" = true) (k23 : keepIn K (.ref f23) = true) (a24 : nsIn K mainGlobals "area_on" = some (some (.ref f24))) (l24 : K.lookup f24 = some ⟨ACg, ANE, .func (fnOf "area_on" "area_on" (Bw Ov) (Bk Ov) (Av Ov) .none AAV AEP zO AMh v8 ACp), AKK⟩) (c24 : codeIn K v8 "area_on" = true) (k24 : keepIn K (.ref f24) = true) (a25 : nsIn K mainGlobals "height_on" = some (some (.ref f25))) (l25 : K.lookup f25 = some ⟨ACV, AFN, .func (fnOf "height_on" "height_on" (Bw Nr) (Bk Nr) (Av Nr) .none AJs AMf ACi AH3 mK AKW), ANv⟩) (c25 : codeIn K mK "height_on" = true) (k25 : keepIn K (.ref f25) = true) (a26 : nsIn K mainGlobals "shelf_on" = some (some (.ref f26))) (l26 : K.lookup f26 = some ⟨AAj, AOA, .func (fnOf "shelf_on" "shelf_on" (Bw M4) (Bk M4) (Av M4) .none ABU AGc AKB ANP sI ADm), AAb⟩) (c26 : codeIn K sI "shelf_on" = true) (k26 : keepIn K (.ref f26) = true) (a27 : nsIn K mainGlobals "written" = some (some (.ref f27))) (l27 : K.lookup f27 = some ⟨ADU, AHj, .func (fnOf "written" "written" (Bw Nb) (Bk Nb) (Av Nb) .none ADe AG3 AKw AIt uK AFq), AAG⟩) (c27 : codeIn K uK "written" = true) (k27 : keepIn K (.ref f27) = true) (a28 : nsIn K mainGlobals "on_area" = some (some (.ref f28))) (l28 : K.lookup f28 = some ⟨AIA, AMk, .func (fnOf "on_area" "on_area" (Bw QW) (Bk QW) (Av QW) .none AK6 AMU AGw ACq iJ AGn), AKM⟩) (c28 : codeIn K iJ "on_area" = true) (k28 : keepIn K (.ref f28) = true) (a29 : nsIn K mainGlobals "mending_writes" = some (some (.ref f29))) (l29 : K.lookup f29 = some ⟨AJb, ACX, .func (fnOf "mending_writes" "mending_writes" (Bw O9) (Bk O9) (Av O9) .none AOE AHX AKr ABO qK zG), AAx⟩) (c29 : codeIn K qK "mending_writes" = true) (k29 : keepIn K (.ref f29) = true) (a30 : findIn K (.ref CK) "__init__" = some (some (.ref f30))) (Z7 : PySem.W.isFn K (.ref f30) = true) (l30 : K.lookup f30 = some ⟨AN4, ABq, .func (fnOf "__init__" "Keeper.__init__" (Bw Mh) (Bk Mh) (Av Mh) .none ANl ABa AJW AKL jZ AIH), AGt⟩) (c30 : codeIn K jZ "Keeper.__init__" = true) (k30 : keepIn K (.ref f30) = true) (a31 : findIn K (.ref CK) "come_up" = some (some (.ref f31))) (Ys : PySem.W.isFn K (.ref f31) = true) (l31 : K.lookup f31 = some ⟨AN0, ACs, .func (fnOf "come_up" "Keeper.come_up" (Bw Om) (Bk Om) (Av Om) .none AM0 AFG AIW AGa oU AKi), AOY⟩) (c31 : codeIn K oU "Keeper.come_up" = true) (k31 : keepIn K (.ref f31) = true) (a32 : findIn K (.ref CK) "shelf" = some (some (.ref f32))) (Zx : PySem.W.isFn K (.ref f32) = true) (l32 : K.lookup f32 = some ⟨AGm, AEh, .func (fnOf "shelf" "Keeper.shelf" (Bw M9) (Bk M9) (Av M9) .none AFO AFi AHy AGW tV ALU), AM2⟩) (c32 : codeIn K tV "Keeper.shelf" = true) (k32 : keepIn K (.ref f32) = true) (a33 : findIn K (.ref CK) "rows" = some (some (.ref f33))) (aR : PySem.W.isFn K (.ref f33) = true) (l33 : K.lookup f33 = some ⟨ANM, ALP, .func (fnOf "rows" "Keeper.rows" (Bw Nk) (Bk Nk) (Av Nk) .none ALx AGN ANt ADb tG AJg), ANC⟩) (c33 : codeIn K tG "Keeper.rows" = true) (k33 : keepIn K (.ref f33) = true) (a34 : findIn K (.ref CK) "excess" = some (some (.ref f34))) (cR : PySem.W.isFn K (.ref f34) = true) (l34 : K.lookup f34 = some ⟨AJ7, ALC, .func (fnOf "excess" "Keeper.excess" (Bw Nm) (Bk Nm) (Av Nm) .none ANp AG2 AMg AFj xH AJ9), AGJ⟩) (c34 : codeIn K xH "Keeper.excess" = true) (k34 : keepIn K (.ref f34) = true) (a35 : findIn K (.ref CK) "over" = some (some (.ref f35))) (Z9 : PySem.W.isFn K (.ref f35) = true) (l35 : K.lookup f35 = some ⟨ADt, AIV, .func (fnOf "over" "Keeper.over" (Bw O5) (Bk O5) (Av O5) .none AMA ABH AKg AOT wL AEH), AFb⟩) (c35 : codeIn K wL "Keeper.over" = true) (k35 : keepIn K (.ref f35) = true) (a36 : nsIn K mainGlobals "_law_cell" = some (some (.ref f36))) (l36 : K.lookup f36 = some ⟨AEZ, AGY, .func (fnOf "_law_cell" "_law_cell" (Bw Ny) (Bk Ny) (Av Ny) .none AIF AKV ANb ALl yZ AGo), ACo⟩) (c36 : codeIn K yZ "_law_cell" = true) (k36 : keepIn K (.ref f36) = true) (a37 : nsIn K mainGlobals "_law_spread" = some (some (.ref f37))) (l37 : K.lookup f37 = some ⟨AHQ, ALc, .func (fnOf "_law_spread" "_law_spread" (Bw QS) (Bk QS) (Av QS) .none ANj ADv ALy ALo uL AHL), ANq⟩) (c37 : codeIn K uL "_law_spread" = true) (k37 : keepIn K (.ref f37) = true) (a38 : nsIn K mainGlobals "_law_mixed" = some (some (.ref f38))) (l38 : K.lookup f38 = some ⟨AN5, zW, .func (fnOf "_law_mixed" "_law_mixed" (Bw Nh) (Bk Nh) (Av Nh) .none AMY AFm AFv AHi rK ADl), AJF⟩) (c38 : codeIn K rK "_law_mixed" = true) (k38 : keepIn K (.ref f38) = true) (a39 : nsIn K mainGlobals "_law_bounds" = some (some (.ref f39))) (l39 : K.lookup f39 = some ⟨AMa, AEx, .func (fnOf "_law_bounds" "_law_bounds" (Bw QL) (Bk QL) (Av QL) .none ADS AKe AI4 AK3 tX AJi), ACR⟩) (c39 : codeIn K tX "_law_bounds" = true) (k39 : keepIn K (.ref f39) = true) (a40 : nsIn K mainGlobals "_law_two" = some (some (.ref f40))) (l40 : K.lookup f40 = some ⟨AJY, AKT, .func (fnOf "_law_two" "_law_two" (Bw QX) (Bk QX) (Av QX) .none AFJ ANS AFe AIr yO ANr), AFP⟩) (c40 : codeIn K yO "_law_two" = true) (k40 : keepIn K (.ref f40) = true) (a41 : nsIn K mainGlobals "_law_filled" = some (some (.ref f41))) (l41 : K.lookup f41 = some ⟨AEV, zV, .func (fnOf "_law_filled" "_law_filled" (Bw Ot) (Bk Ot) (Av Ot) .none AFn AJ2 ANw AFH mV ABS), AM5⟩) (c41 : codeIn K mV "_law_filled" = true) (k41 : keepIn K (.ref f41) = true) (a42 : nsIn K mainGlobals "_law_area" = some (some (.ref f42))) (l42 : K.lookup f42 = some ⟨AII, AJA, .func (fnOf "_law_area" "_law_area" (Bw Oi) (Bk Oi) (Av Oi) .none AMS AFu AFY ALH tH ACx), ACz⟩) (c42 : codeIn K tH "_law_area" = true) (k42 : keepIn K (.ref f42) = true) (a43 : nsIn K mainGlobals "_law_disk" = some (some (.ref f43))) (l43 : K.lookup f43 = some ⟨ABy, AMo, .func (fnOf "_law_disk" "_law_disk" (Bw Pn) (Bk Pn) (Av Pn) .none ACU AL2 AMW AGF lG AHT), AN6⟩) (c43 : codeIn K lG "_law_disk" = true) (k43 : keepIn K (.ref f43) = true) (a44 : nsIn K mainGlobals "_law_cap" = some (some (.ref f44))) (l44 : K.lookup f44 = some ⟨AAr, AEu, .func (fnOf "_law_cap" "_law_cap" (Bw Qf) (Bk Qf) (Av Qf) .none AKu AMH ALd ACL jJ AIl), AIP⟩) (c44 : codeIn K jJ "_law_cap" = true) (k44 : keepIn K (.ref f44) = true) (a45 : nsIn K mainGlobals "_law_doubled" = some (some (.ref f45))) (l45 : K.lookup f45 = some ⟨AEm, AIX, .func (fnOf "_law_doubled" "_law_doubled" (Bw N7) (Bk N7) (Av N7) .none AEp ALk AHC ACl yW AKI), ANh⟩) (c45 : codeIn K yW "_law_doubled" = true) (k45 : keepIn K (.ref f45) = true) (a46 : nsIn K mainGlobals "_law_no_bounds" = some (some (.ref f46))) (l46 : K.lookup f46 = some ⟨AMq, AHI, .func (fnOf "_law_no_bounds" "_law_no_bounds" (Bw QB) (Bk QB) (Av QB) .none AJB ADi AHx AM6 pO AFz), AIp⟩) (c46 : codeIn K pO "_law_no_bounds" = true) (k46 : keepIn K (.ref f46) = true) (a47 : nsIn K mainGlobals "_law_no_disk" = some (some (.ref f47))) (l47 : K.lookup f47 = some ⟨AKd, AHO, .func (fnOf "_law_no_disk" "_law_no_disk" (Bw NZ) (Bk NZ) (Av NZ) .none AKa AOH zL AOW jY AEo), AEt⟩) (c47 : codeIn K jY "_law_no_disk" = true) (k47 : keepIn K (.ref f47) = true) (a48 : nsIn K mainGlobals "_law_kinds" = some (some (.ref f48))) (l48 : K.lookup f48 = some ⟨AKQ, AJl, .func (fnOf "_law_kinds" "_law_kinds" (Bw O6) (Bk O6) (Av O6) .none AMZ AKb AME AHJ wJ AIu), AJO⟩) (c48 : codeIn K wJ "_law_kinds" = true) (k48 : keepIn K (.ref f48) = true) (a49 : nsIn K mainGlobals "law" = some (some (.ref f49))) (l49 : K.lookup f49 = some ⟨AL3, AGC, .func (fnOf "law" "law" (Bw Pb) (Bk Pb) (Av Pb) .none AIk ANf AEq AHu wB AGI), ABM⟩) (c49 : codeIn K wB "law" = true) (k49 : keepIn K (.ref f49) = true) (Zu : nsIn K mainGlobals "ValueError" = some none) (aG : nsIn K mainGlobals "all" = some none) (dU : nsIn K mainGlobals "bool" = some none) (ZZ : nsIn K mainGlobals "enumerate" = some none) (Zj : nsIn K mainGlobals "int" = some none) (b8 : nsIn K mainGlobals "isinstance" = some none) (Z8 : nsIn K mainGlobals "len" = some none) (gU : nsIn K mainGlobals "list" = some none) (gD : nsIn K mainGlobals "max" = some none) (aA : nsIn K mainGlobals "range" = some none) (d7 : nsIn K mainGlobals "sum" = some none) (Y9 : nsIn K mainGlobals "tuple" = some none) (Zr : nsIn K mainGlobals "zip" = some none) (Yu : nsIn K mainGlobals "GREATEST_TOP" = some (some (.int 4 AL9))) (aN : nsIn K mainGlobals "GREATEST_WIDTH" = some (some (.int 20 AOM))) (Yn : nsIn K mainGlobals "SIGN_PART" = some (some (.int 2 AMl))) {Dc C1 C2 d1 d2 d3 d4 : Addr} (q0 : nsIn K mainGlobals "ShelfError" = some (some (.ref Dc))) (q1 : nsIn K mainGlobals "BadBounds" = some (some (.ref C1))) (q2 : nsIn K mainGlobals "BadDisk" = some (some (.ref C2))) (t1 : nsIn K mainGlobals "Full" = some (some (.ref d1))) (t2 : nsIn K mainGlobals "NoKey" = some (some (.ref d2))) (t3 : nsIn K mainGlobals "NoText" = some (some (.ref d3))) (t4 : nsIn K mainGlobals "NoRow" = some (some (.ref d4))) (x0 : excIn K Dc HS "ValueError.__new__" = true) (x1 : excIn K C1 HS "ValueError.__new__" = true) (x2 : excIn K C2 HS "ValueError.__new__" = true) (ga1 : findIn K (.ref C1) "__getattribute__" = some (some (.builtin "BaseException.__getattribute__"))) (gt1 : findIn K (.ref C1) "__getattr__" = some none) (cl1 : findIn K (.ref C1) "__class__" = some (some (.builtin "object.__class__"))) (mB1 : mroIn K C1 (.type "BaseException") = some true) (mO1 : mroIn K C1 (.type "object") = some true) (s1 : mroIn K C1 (.ref Dc) = some true) (ga2 : findIn K (.ref C2) "__getattribute__" = some (some (.builtin "BaseException.__getattribute__"))) (gt2 : findIn K (.ref C2) "__getattr__" = some none) (cl2 : findIn K (.ref C2) "__class__" = some (some (.builtin "object.__class__"))) (mB2 : mroIn K C2 (.type "BaseException") = some true) (mO2 : mroIn K C2 (.type "object") = some true) (s2 : mroIn K C2 (.ref Dc) = some true) (i1 : kitOne K (.ref C1) (.ref C1) = some true) (i2 : kitOne K (.ref C1) (.ref C2) = some false) (i3 : PySem.W.kitAny K (.ref C1) [.ref d1, .ref d2, .ref d3, .ref d4] = some false) (i4 : kitOne K (.ref C1) (.type "ValueError") = some true) (j1 : kitOne K (.ref C2) (.ref C1) = some false) (j2 : kitOne K (.ref C2) (.ref C2) = some true) (j3 : PySem.W.kitAny K (.ref C2) [.ref d1, .ref d2, .ref d3, .ref d4] = some false) (j4 : kitOne K (.ref C2) (.type "ValueError") = some true) : ∃ fd : FuncData, (∀ (s : Shared) (u : Value), BindsTo s fd ⟨[u], []⟩ [("script", u)]) ∧ ∀ base : Heap, K.In base → base.Ns mainGlobals mg → Er l.prog w K mg base Gk 10 fa fd ["script"] (Xv K) := by
  have T : Txt K mg CK := ⟨⟨o0, ⟨o1, o2, o3, o4⟩, o5, o6, o7, o8, fun U hU => by simp only [List.mem_cons, List.mem_nil_iff, or_false] at hU; rcases hU with rfl | rfl | rfl | rfl | rfl <;> assumption⟩, o9, oa, mg_of X G o0, NT o0 Jj, NT o0 U8, NT o0 S9, NT o0 Ub, NT o0 Lw, NT o0 VP, NT o0 Td, mg_none_of X G Zu, mg_none_of X G aG, mg_none_of X G dU, mg_none_of X G ZZ, mg_none_of X G Zj, mg_none_of X G b8, mg_none_of X G Z8, mg_none_of X G gU, mg_none_of X G gD, mg_none_of X G aA, mg_none_of X G d7, mg_none_of X G Y9, mg_none_of X G Zr, ⟨_, mg_of X G Yu⟩, ⟨_, mg_of X G aN⟩, ⟨_, mg_of X G Yn⟩⟩
  have Ug : Def K mg "is_whole" Pk ["thing"] := Cp X G (by walk_at "d1") a0 l0 c0 k0
  have Tf : Def K mg "is_bounds" PQ ["thing"] := Cp X G (by walk_at "d1") a1 l1 c1 k1
  have Tu : Def K mg "are_in_range" P0 ["top", "width", "step"] := Cp X G (by walk_at "d3") a2 l2 c2 k2
  have U4 : Def K mg "twofold" Nx ["height"] := Cp X G (by walk_at "d1") a3 l3 c3 k3
  have Tw : Def K mg "places_of" QT ["bounds", "height"] := Cp X G (by walk_at "d2") a4 l4 c4 k4
  have Uv : Def K mg "cap_of" Og ["bounds", "height"] := Cp X G (by walk_at "d2") a5 l5 c5 k5
  have U5 : Def K mg "calm_of" Nj ["bounds", "height"] := Cp X G (by walk_at "d2") a6 l6 c6 k6
  have Va : Def K mg "is_straight" O8 ["shelf"] := Cp X G (by walk_at "d1") a7 l7 c7 k7
  have UL : Def K mg "is_sound" Pj ["shelf"] := Cp X G (by walk_at "d1") a8 l8 c8 k8
  have VG : Def K mg "second_place" Pg ["shelf"] := Cp X G (by walk_at "d1") a9 l9 c9 k9
  have Th : Def K mg "mended" Px ["shelf"] := Cp X G (by walk_at "d1") a10 l10 c10 k10
  have Vc : Def K mg "rows_of" NB ["shelf"] := Cp X G (by walk_at "d1") a11 l11 c11 k11
  have Vw : Def K mg "held" Qc ["shelf", "first", "behind"] := Cp X G (by walk_at "d3") a12 l12 c12 k12
  have Tp : Def K mg "done" Ow ["shelf", "writes"] := Cp X G (by walk_at "d2") a13 l13 c13 k13
  have Tv : Def K mg "beyond" Oo ["number", "bound"] := Cp X G (by walk_at "d2") a14 l14 c14 k14
  have Tq : Def K mg "excess_at" Oq ["bounds", "level", "shelf"] := Cp X G (by walk_at "d3") a15 l15 c15 k15
  have TJ : Def K mg "excess_of" NP ["bounds", "height", "shelf"] := Cp X G (by walk_at "d3") a16 l16 c16 k16
  have Vz : Def K mg "over_of" Oe ["bounds", "height", "shelf"] := Cp X G (by walk_at "d3") a17 l17 c17 k17
  have Ur : Def K mg "is_pair" QK ["thing"] := Cp X G (by walk_at "d1") a18 l18 c18 k18
  have T9 : Def K mg "is_place" M6 ["thing"] := Cp X G (by walk_at "d1") a19 l19 c19 k19
  have Tt : Def K mg "is_area" Np ["thing", "size"] := Cp X G (by walk_at "d2") a20 l20 c20 k20
  have Vi : Def K mg "is_sign" O4 ["bounds", "thing"] := Cp X G (by walk_at "d2") a21 l21 c21 k21
  have Uc : Def K mg "has_form" QR ["bounds", "thing"] := Cp X G (by walk_at "d2") a22 l22 c22 k22
  have VR : Def K mg "is_disk" N6 ["bounds", "thing"] := Cp X G (by walk_at "d2") a23 l23 c23 k23
  have Uq : Def K mg "area_on" Ov ["disk"] := Cp X G (by walk_at "d1") a24 l24 c24 k24
  have Tg : Def K mg "height_on" Nr ["disk"] := Cp X G (by walk_at "d1") a25 l25 c25 k25
  have Ud : Def K mg "shelf_on" M4 ["bounds", "disk"] := Cp X G (by walk_at "d2") a26 l26 c26 k26
  have VF : Def K mg "written" Nb ["disk", "writes"] := Cp X G (by walk_at "d2") a27 l27 c27 k27
  have Vn : Def K mg "on_area" QW ["area", "writes"] := Cp X G (by walk_at "d2") a28 l28 c28 k28
  have Te : Def K mg "mending_writes" O9 ["bounds", "disk"] := Cp X G (by walk_at "d2") a29 l29 c29 k29
  have Ms : DG K CK "__init__" "Keeper.__init__" Mh ["self", "bounds", "disk"] := Qi (by walk_at "d3") a30 Z7 l30 c30 k30
  have Uy : DG K CK "come_up" "Keeper.come_up" Om ["self", "disk"] := Qi (by walk_at "d2") a31 Ys l31 c31 k31
  have Ue : DG K CK "shelf" "Keeper.shelf" M9 ["self"] := Qi (by walk_at "d1") a32 Zx l32 c32 k32
  have Vm : DG K CK "rows" "Keeper.rows" Nk ["self"] := Qi (by walk_at "d1") a33 aR l33 c33 k33
  have U6 : DG K CK "excess" "Keeper.excess" Nm ["self"] := Qi (by walk_at "d1") a34 cR l34 c34 k34
  have Ua : DG K CK "over" "Keeper.over" O5 ["self"] := Qi (by walk_at "d1") a35 Z9 l35 c35 k35
  have Vp : Def K mg "_law_cell" Ny ["script", "k"] := Cp X G (by walk_at "d2") a36 l36 c36 k36
  have Vu : Def K mg "_law_spread" QS ["cell"] := Cp X G (by walk_at "d1") a37 l37 c37 k37
  have T5 : Def K mg "_law_mixed" Nh ["cell", "k"] := Cp X G (by walk_at "d2") a38 l38 c38 k38
  have Um : Def K mg "_law_bounds" QL ["cell"] := Cp X G (by walk_at "d1") a39 l39 c39 k39
  have Ve : Def K mg "_law_two" QX ["height"] := Cp X G (by walk_at "d1") a40 l40 c40 k40
  have Vq : Def K mg "_law_filled" Ot ["bounds", "height", "cell", "many"] := Cp X G (by walk_at "d4") a41 l41 c41 k41
  have Vs : Def K mg "_law_area" Oi ["cell", "k", "size", "things"] := Cp X G (by walk_at "d4") a42 l42 c42 k42
  have Vy : Def K mg "_law_disk" Pn ["bounds", "height", "which", "shelf", "cell"] := Cp X G (by walk_at "d5") a43 l43 c43 k43
  have Uu : Def K mg "_law_cap" Qf ["bounds", "height"] := Cp X G (by walk_at "d2") a44 l44 c44 k44
  have T3 : Def K mg "_law_doubled" N7 ["shelf", "cell"] := Cp X G (by walk_at "d2") a45 l45 c45 k45
  have Uk : Def K mg "_law_no_bounds" QB ["bounds", "number"] := Cp X G (by walk_at "d2") a46 l46 c46 k46
  have UJ : Def K mg "_law_no_disk" NZ ["bounds", "disk", "number"] := Cp X G (by walk_at "d3") a47 l47 c47 k47
  have VB : Def K mg "_law_kinds" O6 ["bounds", "disk"] := Cp X G (by walk_at "d2") a48 l48 c48 k48
  have Qw : Def K mg "law" Pb ["script"] := Cp X G (by walk_at "d1") a49 l49 c49 k49
  have tY : ∀ {C : Addr}, mroIn K C (.type "object") = some true → (PySem.W.clsIn K C).isSome = true := fun {C} e => by
    unfold mroIn at e
    cases q : PySem.W.clsIn K C with
    | none => rw [q] at e; cases e
    | some cd => rfl
  have y1 := tY mO1
  have y2 := tY mO2
  have kf : KF K mg Dc C1 C2 d1 d2 d3 d4 := ⟨mg_of X G q0, mg_of X G t1, mg_of X G t2, mg_of X G t3, mg_of X G t4, x0, x1, x2, ⟨ga1, gt1, cl1, mB1, mO1⟩, ⟨ga2, gt2, cl2, mB2, mO2⟩, y1, y2, s1, s2, ⟨mg_of X G q1, mg_of X G q2, i1, i2, i3, i4, j1, j2, j3, j4, (by show 4 ≤ 1000; decide)⟩⟩
  exact AGe Qw hfa fun base _ _ => chain kf T hl Ug Tf Tu U4 Tw Uv U5 Va UL VG Th Vc Vw Tp Tv Tq TJ Vz Ur T9 Tt Vi Uc VR Uq Tg Ud VF Vn Te Ms Uy Ue Vm U6 Ua Vp Vu T5 Um Ve Vq Vs Vy Uu T3 Uk UJ VB Qw
end S27
set_option hygiene false
local macro_rules | `(tactic| walk_at "pu") => `(tactic| simp only [L2.Aw, L2.Iv, L2.Q7, L2.RG, L2.Xj, L2.lO, L2.Hg, L2.fX, L2.XQ, L2.Kl, L2.Kc, L2.YK, L2.uE, L2.oX, L2.xT, L2.Lr, L2.vN, L2.V5, L2.tW, L2.Xy, L2.pH, L2.JB, L2.Vk, L2.U3, L2.pK, L2.zB, L2.sE, L2.u6, L2.AJ5, L2.ANQ, L2.Zk, L2.yI, L2.Qn, L2.Bb, L2.vS, L2.vF, L2.vL, L2.Kd, L2.RC, L2.Ho, L2.Ae, L2.Nf, L2.Aa, L2.Ad, L2.BP, L2.Ez, L2.Gi, L2.GF, L2.Cq, L2.Gp, L2.T7, L2.WM, L2.WK, L2.Hs, L2.Ag, L2.Ab, L2.Bt, L2.CQ, L2.BV, L2.Ar, L2.Bm, L2.JR, L2.Br, L2.Hd, L2.Ma, L2.wN, L2.Cd, L2.DK, L2.mH, L2.QC, L2.Jh, L2.uV, L2.Fl, L2.Gs, L2.GC, L2.Gy, L2.Dw, L2.Ox, L2.Qd, L2.v7, L2.full, L2.masked, L2.tR,
  List.map_cons, List.map_nil, List.cons_append, List.nil_append, List.length_cons, List.length_nil, List.length_map, Nat.reduceAdd, Nat.reduceSub, Nat.zero_add, List.replicate_succ, List.replicate_zero, List.set_cons_succ, List.set_cons_zero, L2.v5, L2.oG, List.getElem?_cons_zero, List.getElem?_cons_succ, Option.join_some,
  L2.uC, L2.jO, L2.jN, L2.xM, L2.wG, L2.xJ, L2.Be, L2.uX, Option.map_some, L2.wZ, L2.Ls, L2.rW, L2.lV, L2.dD, L2.qO, L2.yK, L2.pP, L2.U9, L2.Xe, L2.kO, L2.sY, L2.V2, L2.zA, L2.oF, L2.jT, L2.qU, L2.xR, L2.Wc, L2.jP, L2.xK, L2.xG, L2.qL, L2.uZ, L2.lL,
  L2.wX, L2.iM, L2.yV, L2.jH, L2.lH, L2.u5, L2.vK, L2.iW, L2.xW, L2.jX, L2.nZ, L2.yS, L2.xP, L2.t7, L2.jA, L2.Zh, Bool.and_self, Bool.true_and, L2.nW, L2.n6, if_true, if_false, Bool.not_true, Bool.not_false, Bool.false_eq_true, L2.Vh, L2.vY, decide_true, decide_false, Bool.or_true, Bool.true_or, Bool.or_self, Bool.or_false, Bool.false_or, Bool.and_true, Bool.and_false, Bool.false_and, and_self, and_true, true_and, not_true_eq_false, not_false_eq_true, true_or, or_true, L2.Ry, L2.xU, L2.mD, L2.oR, L2.j9, L2.rJ, L2.qR, L2.jF, L2.pX, L2.rT, L2.p8, eq_self, L2.vB, L2.sH, L2.wY, L2.pZ, L2.oK, L2.bZ, L2.YS, L2.nJ, L2.kJ, L2.cJ, L2.aO, L2.aJ, L2.Ru, Int.reduceLT, Int.reduceLE, Nat.reduceLT, Nat.reduceLeDiff, Int.reduceNeg, Int.reduceAdd, Int.reduceSub, Int.reduceMul, Nat.lt_irrefl, *])
set_option hygiene true
namespace S27
open PySem L2 LL S22
def inR (x y z : Int) : Bool := (decide (0 ≤ x) && decide (x ≤ 4)) && ((decide (1 ≤ y) && decide (y ≤ 20)) && (decide (z ≥ 1) && decide (y ≥ z * (x + 2))))
theorem AJz (x y z : Int) : Gq [.int x, .int y, .int z] = some (.bool (inR x y z)) := by
  refine Cr (o := .rt (.bool (inR x y z))) rfl ?_ rfl
  unfold cW inR
  by_cases c1 : 0 ≤ x
  · by_cases c2 : x ≤ 4
    · by_cases c3 : 1 ≤ y
      · by_cases c4 : y ≤ 20
        · refine BJ (ρ' := [.sh (.int x), .sh (.int y), .sh (.int z)]) (by walk_at "pu") ?_
          have sm : (small z || small (x + 2)) = true := by
            rw [Bool.or_eq_true_iff]
            right
            rw [Vh]
            exact decide_eq_true ⟨by omega, by omega⟩
          have hm : DX (.int z) (.int (x + 2)) = some (.int (z * (x + 2))) := by rw [U9, if_pos sm]
          by_cases c5 : z ≥ 1
          · clear sm
            walk_at "pu"
          · clear sm hm
            walk_at "pu"
        · refine Ja ?_
          walk_at "pu"
      · refine Ja ?_
        walk_at "pu"
    · refine Ja ?_
      walk_at "pu"
  · refine Ja ?_
    walk_at "pu"
theorem ALr (x y z : D) : Ca (Ox (Aa 0)) (Cg 0) Cq (Ar HQ (Ab (Aa 0) Ag)) 1 [] [some (.tuple [x, y, z])] = some [.bool (Dd x), .bool (Dd y), .bool (Dd z)] := by
  refine (Hb (items := [x, y, z]) rfl (by simp)).trans ?_
  exact Oj (bd := Cg 0) (fe := Ar HQ (Ab (Aa 0) Ag)) (ρ0 := [none]) (fun x : D => x) (fun x => PyData.bool (Dd x)) [x, y, z] fun x hx => ⟨_, rfl, by
    show Option.bind (some [x]) HQ = _
    exact bF x⟩
theorem cV (x y z : D) : FJ [.tuple [x, y, z]] = if Dd x && Dd y && Dd z then Gq [x, y, z] else some (.bool false) := by
  have hc := ALr x y z
  have hall : KJ [.list [.bool (Dd x), .bool (Dd y), .bool (Dd z)]] = some (.bool (Dd x && Dd y && Dd z)) := by
    cases Dd x <;> cases Dd y <;> cases Dd z <;> rfl
  have hl : CG [.tuple [x, y, z]] = some (.int 3) := rfl
  have i0 : Az (.tuple [x, y, z]) (.int 0) = some x := rfl
  have i1 : Az (.tuple [x, y, z]) (.int 1) = some y := rfl
  have i2 : Az (.tuple [x, y, z]) (.int 2) = some z := rfl
  have ty : Gv (.tuple [x, y, z]) = "tuple" := rfl
  have go : ∀ o, (Aw (Cd (Ez (BP (Ar KJ (Ab (BV (Ca (Ox (Aa 0)) (Cg 0) Cq (Ar HQ (Ab (Aa 0) Ag)) 1 [])) Ag))))
      (Br (Ad (.bool false))) DK)
    (Br (Ar Gq (Ab (Ae Az (Aa 0) (Ad (.int 0))) (Ab (Ae Az (Aa 0) (Ad (.int 1))) (Ab (Ae Az (Aa 0) (Ad (.int 2))) Ag)))))) [.sh (.tuple [x, y, z])] = o → RB (GX 1 [.tuple [x, y, z]]) = o := by
    intro o ho
    unfold RB
    refine BJ (ρ' := [.sh (.tuple [x, y, z])]) ?_ ho
    generalize PyData.tuple [x, y, z] = T at *
    clear ho hc i0 i1 i2 hall
    walk_at "pu"
  generalize Ca (Ox (Aa 0)) (Cg 0) Cq (Ar HQ (Ab (Aa 0) Ag)) 1 [] = PC at *
  show (if [PyData.tuple [x, y, z]].length = 1 then (RB (GX 1 [.tuple [x, y, z]])).bind outD else none) = _
  rw [if_pos (show [PyData.tuple [x, y, z]].length = 1 from rfl)]
  cases hb : Dd x && Dd y && Dd z with
  | false =>
    rw [hb] at hall
    rw [go (some (.rt (.bool false))) (by
      refine Ja ?_
      generalize PyData.tuple [x, y, z] = T at *
      generalize ([PyData.bool (Dd x), .bool (Dd y), .bool (Dd z)] : List D) = BB at *
      clear go hl i0 i1 i2 ty hb
      walk_at "pu")]
    rfl
  | true =>
    rw [hb] at hall
    have last : (Br (Ar Gq (Ab (Ae Az (Aa 0) (Ad (.int 0))) (Ab (Ae Az (Aa 0) (Ad (.int 1))) (Ab (Ae Az (Aa 0) (Ad (.int 2))) Ag))))) [.sh (.tuple [x, y, z])] = (Gq [x, y, z]).map Out.rt := by
      show Option.bind (Option.bind (Option.bind (Az (.tuple [x, y, z]) (.int 0)) fun a => Option.bind (Option.bind (Az (.tuple [x, y, z]) (.int 1)) fun b => Option.bind (Option.bind (Az (.tuple [x, y, z]) (.int 2)) fun c => some [c]) fun r => some (b :: r)) fun r => some (a :: r)) Gq) _ = _
      rw [i0, i1, i2]
      show Option.bind (Gq [x, y, z]) _ = _
      cases Gq [x, y, z] <;> rfl
    rw [go ((Gq [x, y, z]).map Out.rt) (by
      refine BJ (ρ' := [.sh (.tuple [x, y, z])]) ?_ last
      generalize PyData.tuple [x, y, z] = T at *
      generalize ([PyData.bool (Dd x), .bool (Dd y), .bool (Dd z)] : List D) = BB at *
      clear go hl i0 i1 i2 ty hb last
      walk_at "pu")]
    cases Gq [x, y, z] <;> rfl
theorem Qj (x y z : Int) : FJ [.tuple [.int x, .int y, .int z]] = some (.bool (inR x y z)) := by
  rw [cV]
  show (if true = true then Gq [.int x, .int y, .int z] else _) = _
  rw [if_pos rfl, AJz]
theorem pB {t w st : Nat} (bd : Bd (t : Int) (w : Int) (st : Int)) : FJ [Aq t w st] = some (.bool true) := by
  rw [Qj]
  congr 2
  have h1 := bd.t0; have h2 := bd.t4; have h3 := bd.s1; have h4 := bd.lo; have h5 := bd.hi; have h6 := bd.w1
  unfold inR
  rw [decide_eq_true h1, decide_eq_true h2, decide_eq_true h6, decide_eq_true h5, decide_eq_true h3, decide_eq_true h4]
  rfl
theorem Z0 {d : D} (h : Fits d) (ho : ∀ ds, d = .tuple ds → ds.length ≠ 3) : FJ [d] = some (.bool false) := by
  refine Cr (o := .rt (.bool false)) rfl ?_ rfl
  unfold RB
  refine Ja ?_
  show Cd _ _ _ [.sh d] = _
  cases d with
  | tuple ds =>
    have e1 : CG [.tuple ds] = some (.int (ds.length : Int)) := rfl
    have e2 : ¬ ((ds.length : Int) = 3) := by have := ho ds rfl; omega
    have e3 : Gv (.tuple ds) = "tuple" := rfl
    generalize PyData.tuple ds = S at *
    generalize (ds.length : Int) = M at *
    clear h ho
    walk_at "pu"
  | dict kvs => cases kvs <;> rfl
  | _ => rfl
def Kh (t w st : Int) : List D := [.none, .list [.int t, .int w, .int st], .tuple [.int t, .int w], .tuple [.int 5, .int w, .int st], .tuple [.int (-1), .int w, .int st], .tuple [.int t, .int 21, .int st]]
def R5 (t w st : Int) : List D := [.tuple [.int t, .int (st * (t + 2) - 1), .int st], .tuple [.int t, .int w, .int 0], .tuple [.bool true, .int w, .int st], .tuple [.int t, .str "6", .int st]]
theorem zK {t w st : Nat} : ∀ o ∈ Kh t w st ++ R5 t w st, FJ [o] = some (.bool false) := by
  intro o ho
  simp only [Kh, R5, List.cons_append, List.nil_append, List.mem_cons, List.mem_nil_iff, or_false] at ho
  have F : ∀ (a b c d e : Bool), (a = false ∨ b = false ∨ c = false ∨ d = false ∨ e = false) → True := fun _ _ _ _ _ _ => trivial
  rcases ho with rfl | rfl | rfl | rfl | rfl | rfl | rfl | rfl | rfl | rfl
  · exact Z0 trivial (fun ds z => by cases z)
  · exact Z0 (show 3 < 16777216 by decide) (fun ds z => by cases z)
  · exact Z0 (show 2 < 16777216 by decide) (fun ds z => by cases z; show 2 ≠ 3; decide)
  · rw [Qj]; rfl
  · rw [Qj]; rfl
  · rw [Qj]
    unfold inR
    rw [show decide ((21 : Int) ≤ 20) = false from rfl]
    simp
  · rw [Qj]
    unfold inR
    rw [show decide ((st : Int) * ((t : Int) + 2) - 1 ≥ (st : Int) * ((t : Int) + 2)) = false from decide_eq_false (by omega)]
    simp
  · rw [Qj]
    unfold inR
    rw [show decide ((0 : Int) ≥ 1) = false from rfl]
    simp
  · rw [cV]; rfl
  · rw [cV]; rfl
theorem AI6 {t w st : Nat} (bd : Bd (t : Int) (w : Int) (st : Int)) (c : Int) : ∃ o, Rm [Aq t w st, .int c] = some o ∧ FJ [o] = some (.bool false) := by
  have m10 := Ej c (b := 10) (by decide)
  obtain ⟨o, ho, eo⟩ := Jb (Kh t w st ++ R5 t w st) (i := c % 10) m10.1 m10.2
  refine ⟨o, ?_, zK o ho⟩
  have st0 := bd.s1
  have lo := bd.lo
  have hi := bd.hi
  have t0 := bd.t0
  have t4 := bd.t4
  have sm : (small (st : Int) || small ((t : Int) + 2)) = true := by
    rw [Bool.or_eq_true_iff]
    right
    rw [Vh]
    exact decide_eq_true ⟨by omega, by omega⟩
  have hm : DX (.int (st : Int)) (.int ((t : Int) + 2)) = some (.int ((st : Int) * ((t : Int) + 2))) := by rw [U9, if_pos sm]
  have l6 : (Kh t w st).length = 6 := rfl
  have e1 : Kh t w st = [.none, .list [.int t, .int w, .int st], .tuple [.int t, .int w], .tuple [.int 5, .int w, .int st], .tuple [.int (-1), .int w, .int st], .tuple [.int t, .int 21, .int st]] := rfl
  have e2 : R5 t w st = [.tuple [.int t, .int (st * (t + 2) - 1), .int st], .tuple [.int t, .int w, .int 0], .tuple [.bool true, .int w, .int st], .tuple [.int t, .str "6", .int st]] := rfl
  refine Cr (o := .rt o) rfl ?_ rfl
  unfold Yj
  show Aw _ _ [.sh (Aq t w st), .sh (.int c), .no, .no, .no, .no] = _
  refine BJ (ρ' := [.sh (Aq t w st), .sh (.int c), .sh (.int t), .sh (.int w), .sh (.int st), .no]) rfl ?_
  generalize (t : Int) = tv at *
  generalize (w : Int) = wv at *
  generalize (st : Int) = sv at *
  refine BJ (ρ' := [.sh (Aq t w st), .sh (.int c), .sh (.int tv), .sh (.int wv), .sh (.int sv), .sh (.list (Kh tv wv sv))]) (by clear eo ho e2 hm sm l6; walk_at "pu") ?_
  clear e1
  refine BJ (ρ' := [.sh (Aq t w st), .sh (.int c), .sh (.int tv), .sh (.int wv), .sh (.int sv), .sh (.list (Kh tv wv sv ++ R5 tv wv sv))]) (by rw [e2]; clear eo ho e2 sm; generalize Kh tv wv sv = O1 at *; walk_at "pu") ?_
  clear e2 l6 hm sm ho
  generalize Kh tv wv sv ++ R5 tv wv sv = O at *
  walk_at "pu"
end S27
namespace S27
open PySem L2 LL S22
theorem vP {m : Str} : ∀ {ks : List Str} {ds : List D}, m ∉ ks → Hr m ((ks.zip ds).map fun p => (PyData.str p.1, p.2)) = none
  | [], _, _ => rfl
  | _ :: _, [], _ => rfl
  | k :: ks, d :: ds, h => by
    show (if m = k then some d else Hr m ((ks.zip ds).map fun p => (PyData.str p.1, p.2))) = none
    rw [if_neg fun z => h (by rw [z]; exact Bp)]
    exact vP fun z => h (BK z)
theorem Ux {m : Str} {ks : List Str} {ds : List D} (h : m ∉ ks) : Hk m (.dict (Dq ks ds)) = true := by
  show (Hr m ((ks.zip ds).map fun p => (PyData.str p.1, p.2))).isNone = true
  rw [vP h]
  rfl
theorem Ti {f : Str} {ks : List Str} {d : D} {ds : List D} : Kw f (.dict (Dq (f :: ks) (d :: ds))) = some d := by
  show (if f = f then some d else _) = _
  rw [if_pos rfl]
theorem yU {f g : Str} {ks : List Str} {d : D} {ds : List D} (h : f ≠ g) : Kw f (.dict (Dq (g :: ks) (d :: ds))) = Kw f (.dict (Dq ks ds)) := by
  show (if f = g then some d else Hr f ((ks.zip ds).map fun p => (PyData.str p.1, p.2))) = _
  rw [if_neg h]
  rfl
theorem iY {f : Str} {d : D} : ∀ {ks : List Str} {ds : List D}, ks.length = ds.length → f ∉ ks → G4 f d ks ds = (ks ++ [f], ds ++ [d])
  | [], [], _, _ => rfl
  | k :: ks, e :: ds, hl, h => by
    have ih := iY (f := f) (d := d) (ks := ks) (ds := ds) (by simpa using hl) fun z => h (BK z)
    show (if k = f then (k :: ks, d :: ds) else (k :: (G4 f d ks ds).1, e :: (G4 f d ks ds).2)) = _
    rw [if_neg fun z => h (by rw [z]; exact Bp), ih]
    rfl
  | [], _ :: _, hl, _ => by simp at hl
  | _ :: _, [], hl, _ => by simp at hl
def K6 (S : List Thing) (a : Nat) : List Wr := match Dr none 0 S with
  | none => []
  | some p => [(a, p, none)]
def G7 (w : Nat) (k : Dk) (a h : Nat) : Dk := N8 k (K6 (CV w k a h) a)
theorem X8 {t w n a h : Nat} {k : Dk} {A B : List Thing} (d : Dy k (2 ^ t * w) a h A B) (ht : h ≤ t) : (CV w k a h).length = 2 ^ h * w := by
  unfold CV
  rw [List.length_take, d.ar.2]
  have : 2 ^ h * w ≤ 2 ^ t * w := Nat.mul_le_mul_right w (Nat.pow_le_pow_right (by decide) ht)
  omega
theorem ADT {t w a h : Nat} {k : Dk} {A B : List Thing} (d : Dy k (2 ^ t * w) a h A B) (ht : h ≤ t) : ∀ q ∈ K6 (CV w k a h) a, YQ k q := by
  intro q hq
  unfold K6 at hq
  cases hs : Dr none 0 (CV w k a h) with
  | none => rw [hs] at hq; cases hq
  | some p =>
    rw [hs] at hq
    rw [List.mem_singleton.mp hq]
    have hp := Z6 _ 0 none p hs
    have hl := X8 (n := 0) d ht
    have hle : 2 ^ h * w ≤ 2 ^ t * w := Nat.mul_le_mul_right w (Nat.pow_le_pow_right (by decide) ht)
    have ha := d.ar
    have a2 := d.a2
    refine ⟨by rw [d.eq]; show a < 3; omega, ?_⟩
    show p < (Lh k a).length
    rw [ha.2]
    omega
theorem pD {t w a h : Nat} {k : Dk} {A B : List Thing} (d : Dy k (2 ^ t * w) a h A B) (ht : h ≤ t) : ∃ A' B', Dy (G7 w k a h) (2 ^ t * w) a h A' B' ∧ CV w (G7 w k a h) a h = Ci (CV w k a h) := by
  unfold G7 K6
  cases hs : Dr none 0 (CV w k a h) with
  | none => exact ⟨A, B, d, by show CV w k a h = _; unfold Ci; rw [hs]⟩
  | some p =>
    have hp := Z6 _ 0 none p hs
    have hl := X8 (n := 0) d ht
    have a2 := d.a2
    have hm : Ci (CV w k a h) = (CV w k a h).set p none := by unfold Ci; rw [hs]
    have hpw : p < 2 ^ h * w := by omega
    rw [hm]
    rcases (by omega : a = 0 ∨ a = 1) with rfl | rfl
    · have ek : N8 k [(0, p, none)] = [A.set p none, B, [some (((0 : Nat) : Int), (h : Int))]] := by rw [d.eq]; rfl
      refine ⟨A.set p none, B, ⟨ek, by rw [List.length_set]; exact d.lA, d.lB, by decide⟩, ?_⟩
      have e1 : CV w k 0 h = A.take (2 ^ h * w) := by rw [d.eq]; rfl
      have e2 : CV w (N8 k [(0, p, none)]) 0 h = (A.set p none).take (2 ^ h * w) := by rw [ek]; rfl
      rw [e1, e2, List.take_set]
    · have ek : N8 k [(1, p, none)] = [A, B.set p none, [some (((1 : Nat) : Int), (h : Int))]] := by rw [d.eq]; rfl
      refine ⟨A, B.set p none, ⟨ek, d.lA, by rw [List.length_set]; exact d.lB, by decide⟩, ?_⟩
      have e1 : CV w k 1 h = B.take (2 ^ h * w) := by rw [d.eq]; rfl
      have e2 : CV w (N8 k [(1, p, none)]) 1 h = (B.set p none).take (2 ^ h * w) := by rw [ek]; rfl
      rw [e1, e2, List.take_set]
theorem AOJ {t w st a h : Nat} {k : Dk} {A B : List Thing} (d : Dy k (2 ^ t * w) a h A B) (h4 : h ≤ 4) : RM [Aq t w st, Bh k] = some ((K6 (CV w k a h) a).map Ft) := by
  have hs := bV (w := w) (st := st) (t := (t : Int)) d h4
  have h2 := oZ (CV w k a h)
  have ha := jV d
  have hs' : IV [Aq t w st, Bh k] = some ((CV w k a h).map encD) := hs
  generalize CV w k a h = S at *
  refine Hy rfl ?_
  unfold Yc K6
  show Aw _ _ [.sh (Aq t w st), .sh (Bh k), .no] = _
  generalize Aq t w st = Bo at *
  generalize Bh k = E at *
  cases lU : Dr none 0 S with
  | none =>
    rw [lU] at h2
    have h2' : Il [.list (S.map encD)] = some .none := h2
    generalize S.map encD = SD at *
    refine BJ (ρ' := [.sh Bo, .sh E, .sh .none]) (by clear h2 hs ha; walk_at "pu") ?_
    refine AKA ?_
    clear h2 hs ha h2' hs'
    walk_at "pu"
  | some p =>
    rw [lU] at h2
    have h2' : Il [.list (S.map encD)] = some (.int (p : Nat)) := h2
    have ho : Qa [.int (a : Int), .list [.tuple [.int (p : Int), .tuple []]]] = some [Ft (a, p, none)] := AKn a [(p, none)] (by simp)
    have er : ([((a, p, none) : Wr)]).map Ft = [Ft (a, p, none)] := rfl
    rw [er]
    generalize Ft (a, p, none) = W3 at *
    generalize S.map encD = SD at *
    refine BJ (ρ' := [.sh Bo, .sh E, .sh (.int (p : Nat))]) (by clear h2 hs ha ho; walk_at "pu") ?_
    refine BJ (ρ' := [.sh Bo, .sh E, .sh (.int (p : Nat))]) (by clear h2 hs ha ho h2' hs'; walk_at "pu") ?_
    clear h2 hs h2' hs'
    walk_at "pu"
def TX : List Str := ["bounds", "lying", "puts", "moves", "laid", "first_excess", "first_over"]
def Mx (B E : D) (e o : Int) : D := .dict (Dq TX [B, E, .int 0, .int 0, .int 0, .int e, .int o])
theorem ALY (k : Dk) : (FQ k).all Fp = true := List.all_eq_true.mpr fun ds hd => by
  obtain ⟨ts, _, rfl⟩ := List.mem_map.mp hd
  exact Ru ts
theorem jC {t w st a h : Nat} {k : Dk} {A B : List Thing} (d : Dy k (2 ^ t * w) a h A B) (h4 : h ≤ 4) {ks : List Str} {ds : List D} : JF [.dict (Dq ("bounds" :: "lying" :: ks) (Aq t w st :: Bh k :: ds))] = some ((CV w k a h).map encD) := by
  have hs : IV [Aq t w st, Bh k] = some ((CV w k a h).map encD) := bV (w := w) (st := st) (t := (t : Int)) d h4
  have a1 : Kw "bounds" (.dict (Dq ("bounds" :: "lying" :: ks) (Aq t w st :: Bh k :: ds))) = some (Aq t w st) := Ti
  have a2 : Kw "lying" (.dict (Dq ("bounds" :: "lying" :: ks) (Aq t w st :: Bh k :: ds))) = some (Bh k) := by rw [yU (by decide +kernel)]; exact Ti
  refine Hy rfl ?_
  unfold eE
  generalize PyData.dict (Dq ("bounds" :: "lying" :: ks) (Aq t w st :: Bh k :: ds)) = O at *
  generalize Aq t w st = Bo at *
  generalize Bh k = E at *
  walk_at "pu"
theorem mR {t w st a h : Nat} {k : Dk} {A B : List Thing} (bd : Bd (t : Int) (w : Int) (st : Int)) (d : Dy k (2 ^ t * w) a h A B) (ht : h ≤ t) {ks : List Str} {ds : List D} (hk : ("shelf" : Str) ∉ ks) : (∃ e : Int, QM [.dict (Dq ("bounds" :: "lying" :: ks) (Aq t w st :: Bh k :: ds))] = some (.int e)) ∧ ∃ o : Int, Pa [.dict (Dq ("bounds" :: "lying" :: ks) (Aq t w st :: Bh k :: ds))] = some (.int o) := by
  have t4 : t ≤ 4 := by have := bd.t4; omega
  have w20 : w ≤ 20 := by have := bd.hi; omega
  have w1 : 1 ≤ w := by have := bd.w1; omega
  have s20 : st ≤ 20 := by
    have h1 := bd.lo
    have h2 := bd.t0
    have h3 : (st : Int) * 2 ≤ (st : Int) * ((t : Int) + 2) := Int.mul_le_mul_of_nonneg_left (by omega) (by omega)
    omega
  have hsm := jC (st := st) d (by omega) (ks := ks) (ds := ds)
  have hh := aF d
  have hl := X8 (n := 0) d ht
  have hz := J8 (k := h) (w := w) (by omega) w1 w20
  have he := ALn (CV w k a h) (t : Int) w st h w1 w20 s20 (by omega) hl
  have ho := AMt (CV w k a h) (t : Int) w st h s20 (by omega) (by omega)
  have he' : Od [Aq t w st, .int (h : Int), .list ((CV w k a h).map encD)] = _ := he
  have ho' : Ou [Aq t w st, .int (h : Int), .list ((CV w k a h).map encD)] = _ := ho
  have a1 : Kw "bounds" (.dict (Dq ("bounds" :: "lying" :: ks) (Aq t w st :: Bh k :: ds))) = some (Aq t w st) := Ti
  have a2 : Kw "lying" (.dict (Dq ("bounds" :: "lying" :: ks) (Aq t w st :: Bh k :: ds))) = some (Bh k) := by rw [yU (by decide +kernel)]; exact Ti
  have om : Hk "shelf" (.dict (Dq ("bounds" :: "lying" :: ks) (Aq t w st :: Bh k :: ds))) = true := Ux (by
    intro z
    rcases List.mem_cons.mp z with z | z
    · exact absurd z (by decide +kernel)
    · rcases List.mem_cons.mp z with z | z
      · exact absurd z (by decide +kernel)
      · exact hk z)
  generalize CV w k a h = S at *
  generalize PyData.dict (Dq ("bounds" :: "lying" :: ks) (Aq t w st :: Bh k :: ds)) = O at *
  generalize Aq t w st = Bo at *
  generalize Bh k = E at *
  generalize S.map encD = SD at *
  generalize YX S w st h = ev at *
  generalize max 0 (((things S).length : Int) - TY (w : Int) (st : Int) h) = ov at *
  refine ⟨⟨ev, Cr (o := .rt (.int ev)) rfl ?_ rfl⟩, ⟨ov, Cr (o := .rt (.int ov)) rfl ?_ rfl⟩⟩
  · unfold eY
    clear he ho ho' hl
    walk_at "pu"
  · unfold aP
    clear he ho he' hl
    walk_at "pu"
end S27
namespace S27
open PySem L2 LL S22
theorem Nu {i : Nat} {f : Str} {vf : Am → Option Sl} {ρ : Am} {a : Addr} {ks : List Str} {ds : List D} {d : D} (hv : vf ρ = some (.sh d)) (hi : ρ[i]? = some (.tr a (.obj ks ds))) (hl : ks.length = ds.length) (hs : ks.length < 1000) (hf : f ∉ ks) :
    Hg i f vf ρ = some (.nx (ρ.set i (.tr a (.obj (ks ++ [f]) (ds ++ [d]))))) := by
  unfold Hg
  rw [hv, Be]
  show Option.bind (some d) _ = _
  rw [Be, hi, Be, Zk, Be, if_pos hs, iY hl hf]
theorem zN {t w st a h : Nat} {k : Dk} {A B : List Thing} (bd : Bd (t : Int) (w : Int) (st : Int)) (d : Dy k (2 ^ t * w) a h A B) (ht : h ≤ t) : ∃ e o : Int, ∀ x : Addr, Mg x (["bounds"], [Aq t w st]) [Bh k] = some (.none, (TX, [Aq t w st, Bh (G7 w k a h), .int 0, .int 0, .int 0, .int e, .int o])) := by
  have t4 : t ≤ 4 := by have := bd.t4; omega
  have hm := AOJ (st := st) d (by omega)
  have hw := AKf k (K6 (CV w k a h) a) (by rw [d.eq]; show 3 < 16777216; decide) (ADT d ht)
  have hek : Bh (G7 w k a h) = .list ((FQ (G7 w k a h)).map PyData.list) := oW _
  have hfl := ALY (G7 w k a h)
  obtain ⟨A', B', d', hsh⟩ := pD d ht
  obtain ⟨⟨e, he⟩, _⟩ := mR bd d' ht (ks := ["puts", "moves", "laid"]) (ds := [.int 0, .int 0, .int 0]) (by decide +kernel)
  obtain ⟨_, ⟨o, ho⟩⟩ := mR bd d' ht (ks := ["puts", "moves", "laid", "first_excess"]) (ds := [.int 0, .int 0, .int 0, .int e]) (by decide +kernel)
  refine ⟨e, o, fun x => ?_⟩
  have hw' : Mp [Bh k, .list ((K6 (CV w k a h) a).map Ft)] = some (FQ (G7 w k a h)) := hw
  generalize (K6 (CV w k a h) a).map Ft = WS at *
  generalize FQ (G7 w k a h) = DS at *
  generalize Bh (G7 w k a h) = E' at *
  have hb : Kw "bounds" (.dict (Dq ["bounds"] [Aq t w st])) = some (Aq t w st) := Ti
  have ome : Hk "excess" (.dict (Dq ["bounds", "lying", "puts", "moves", "laid"] [Aq t w st, E', .int 0, .int 0, .int 0])) = true := Ux (by decide +kernel)
  have omo : Hk "over" (.dict (Dq ["bounds", "lying", "puts", "moves", "laid", "first_excess"] [Aq t w st, E', .int 0, .int 0, .int 0, .int e])) = true := Ux (by decide +kernel)
  have main : Vg (startM 2 x (["bounds"], [Aq t w st]) [Bh k]) = some (.nx [.tr x (.obj TX [Aq t w st, E', .int 0, .int 0, .int 0, .int e, .int o]), .sh (Bh k)]) := by
    unfold Vg
    show Aw _ _ [.tr x (.obj ["bounds"] [Aq t w st]), .sh (Bh k)] = _
    refine BJ (Nu (d := E') (ks := ["bounds"]) (ds := [Aq t w st]) ?_ rfl rfl (by decide) (by decide +kernel)) ?_
    · rw [hek]
      have ob : Sl.view (.tr x (.obj ["bounds"] [Aq t w st])) = some (.dict (Dq ["bounds"] [Aq t w st])) := rfl
      generalize PyData.dict (Dq ["bounds"] [Aq t w st]) = O at *
      generalize Sl.tr x (.obj ["bounds"] [Aq t w st]) = SX at *
      generalize Aq t w st = Bo at *
      generalize Bh k = E at *
      clear hek ome omo he ho hw
      walk_at "pu"
    refine BJ (Nu (d := .int 0) (ks := ["bounds", "lying"]) (ds := [Aq t w st, E']) rfl rfl rfl (by decide) (by decide +kernel)) ?_
    refine BJ (Nu (d := .int 0) (ks := ["bounds", "lying", "puts"]) (ds := [Aq t w st, E', .int 0]) rfl rfl rfl (by decide) (by decide +kernel)) ?_
    refine BJ (Nu (d := .int 0) (ks := ["bounds", "lying", "puts", "moves"]) (ds := [Aq t w st, E', .int 0, .int 0]) rfl rfl rfl (by decide) (by decide +kernel)) ?_
    refine BJ (Nu (d := .int e) (ks := ["bounds", "lying", "puts", "moves", "laid"]) (ds := [Aq t w st, E', .int 0, .int 0, .int 0]) ?_ rfl rfl (by decide) (by decide +kernel)) ?_
    · show Option.bind (Option.bind (some (PyData.dict (Dq ["bounds", "lying", "puts", "moves", "laid"] [Aq t w st, E', .int 0, .int 0, .int 0]))) fun d => Option.bind (some []) fun ds => if Hk "excess" d = true then QM (d :: ds) else none) _ = _
      rw [Be, Be, if_pos ome, he]
      rfl
    refine (Nu (d := .int o) (ks := ["bounds", "lying", "puts", "moves", "laid", "first_excess"]) (ds := [Aq t w st, E', .int 0, .int 0, .int 0, .int e]) ?_ rfl rfl (by decide) (by decide +kernel)).trans rfl
    show Option.bind (Option.bind (some (PyData.dict (Dq ["bounds", "lying", "puts", "moves", "laid", "first_excess"] [Aq t w st, E', .int 0, .int 0, .int 0, .int e]))) fun d => Option.bind (some []) fun ds => if Hk "over" d = true then Pa (d :: ds) else none) _ = _
    rw [Be, Be, if_pos omo, ho]
    rfl
  show (if [Bh k].length + 1 = 2 then (Vg (startM 2 x (["bounds"], [Aq t w st]) [Bh k])).bind (UG x) else none) = _
  rw [if_pos (show [Bh k].length + 1 = 2 from rfl), main, Be]
  show (if x = x then some (PyData.none, _) else none) = _
  rw [if_pos rfl]
theorem AHk {t w st a h : Nat} {k : Dk} {A B : List Thing} (bd : Bd (t : Int) (w : Int) (st : Int)) (d : Dy k (2 ^ t * w) a h A B) (ht : h ≤ t) (hd : Ey [Aq t w st, Bh k] = some (.bool true)) : ∃ e o : Int, ∀ x : Addr, Fz x ([], []) [Aq t w st, Bh k] = some (.none, (TX, [Aq t w st, Bh (G7 w k a h), .int 0, .int 0, .int 0, .int e, .int o])) := by
  obtain ⟨e, o, hc⟩ := zN bd d ht
  have hb := pB bd
  refine ⟨e, o, fun x => ?_⟩
  have hc' := hc x
  generalize Bh (G7 w k a h) = E' at *
  generalize Bh k = E at *
  have main : Ld (startM 3 x ([], []) [Aq t w st, E]) = some (.nx [.tr x (.obj TX [Aq t w st, E', .int 0, .int 0, .int 0, .int e, .int o]), .sh (Aq t w st), .sh E]) := by
    unfold Ld
    show Aw _ _ [.tr x (.obj [] []), .sh (Aq t w st), .sh E] = _
    generalize Aq t w st = Bo at *
    refine BJ (ρ' := [.tr x (.obj [] []), .sh Bo, .sh E]) (by clear hd hc hc'; generalize Sl.tr x (.obj [] []) = SX at *; walk_at "pu") ?_
    refine BJ (ρ' := [.tr x (.obj [] []), .sh Bo, .sh E]) (by clear hb hc hc'; generalize Sl.tr x (.obj [] []) = SX at *; walk_at "pu") ?_
    refine BJ (Nu (d := Bo) (ks := []) (ds := []) rfl rfl rfl (by decide) (by simp)) ?_
    show Option.bind (Option.bind (some (Sl.tr x (.obj ["bounds"] [Bo]))) fun s => (Mq s).bind fun q => Option.bind (some [E]) fun as => if q.2.1.contains "come_up" = true then none else (Mg q.1 q.2 as).bind fun y => some (y.1, List.set [Sl.tr x (.obj ["bounds"] [Bo]), .sh Bo, .sh E] 0 (.tr q.1 (.obj y.2.1 y.2.2)))) _ = _
    rw [Be, Zk, Be, Be, if_neg (by show ¬ (["bounds"] : List Str).contains "come_up" = true; decide +kernel), hc']
    rfl
  show (if [Aq t w st, E].length + 1 = 3 then (Ld (startM 3 x ([], []) [Aq t w st, E])).bind (UG x) else none) = _
  rw [if_pos (show [Aq t w st, E].length + 1 = 3 from rfl), main, Be]
  show (if x = x then some (PyData.none, _) else none) = _
  rw [if_pos rfl]
theorem zY {t w st a h : Nat} {k : Dk} {A B : List Thing} (bd : Bd (t : Int) (w : Int) (st : Int)) (d : Dy k (2 ^ t * w) a h A B) (ht : h ≤ t) (hd : Ey [Aq t w st, Bh k] = some (.bool true)) : ∃ e o : Int, Hi Fz [Aq t w st, Bh k] = some (Mx (Aq t w st) (Bh (G7 w k a h)) e o) := by
  obtain ⟨e, o, hi⟩ := AHk bd d ht hd
  exact ⟨e, o, mk_eq hi⟩
theorem J5 {c : PB} {A B : Ao} {ρ : Am} (h : c (full ρ) = some true) : Cd c A B ρ = A ρ := by
  unfold Cd
  rw [h]
  rfl
theorem Fb {c : PB} {A B : Ao} {ρ : Am} (h : c (full ρ) = some false) : Cd c A B ρ = B ρ := by
  unfold Cd
  rw [h]
  rfl
theorem mW {c : PB} {A B : GJ} {ρ : Am} (h : c (full ρ) = some true) : Oh c A B ρ = A ρ := by
  unfold Oh
  rw [h]
  rfl
theorem AOD {c : PB} {A B : GJ} {ρ : Am} (h : c (full ρ) = some false) : Oh c A B ρ = B ρ := by
  unfold Oh
  rw [h]
  rfl
theorem jU {F F' : Ao} {ρ : Am} (h : F ρ = none) : Aw F F' ρ = none := by
  unfold Aw
  rw [h]
  rfl
theorem Vo {b d : D} {v : Bool} (y0 : Option D) (h : FJ [b] = some (.bool v)) : (Ez (BP (Ar FJ (Ab (Aa 1) Ag)))) [y0, some b, some d] = some (!v) := by
  walk_at "pu"
theorem vQ {b d : D} {v : Bool} (y0 : Option D) (h : Ey [b, d] = some (.bool v)) : (Ez (BP (Ar Ey (Ab (Aa 1) (Ab (Aa 2) Ag))))) [y0, some b, some d] = some (!v) := by
  walk_at "pu"
theorem ADK {b d : D} (h : FJ [b] = some (.bool false) ∨ (FJ [b] = some (.bool true) ∧ Ey [b, d] = some (.bool false))) (x : Addr) : Fz x ([], []) [b, d] = none := by
  show (if [b, d].length + 1 = 3 then (Ld (startM 3 x ([], []) [b, d])).bind (UG x) else none) = _
  rw [if_pos (show [b, d].length + 1 = 3 from rfl)]
  have main : Ld (startM 3 x ([], []) [b, d]) = none := by
    unfold Ld
    show Aw _ _ [.tr x (.obj [] []), .sh b, .sh d] = _
    rcases h with h | ⟨h1, h2⟩
    · exact jU ((J5 (Vo _ h)).trans rfl)
    · exact BJ ((Fb (Vo _ h1)).trans rfl) (jU ((J5 (vQ _ h2)).trans rfl))
  rw [main]
  rfl
theorem Z5 {b d : D} (h : FJ [b] = some (.bool false) ∨ (FJ [b] = some (.bool true) ∧ Ey [b, d] = some (.bool false))) : Hi Fz [b, d] = none := by
  cases q : Hi Fz [b, d] with
  | none => rfl
  | some y =>
    obtain ⟨o, ho, _⟩ := gH q
    have := ho 0
    rw [ADK h 0] at this
    cases this
theorem pM {F : Ao} {G G' : GJ} {ρ : Am} {C : Str} (h : G ρ = some C) : Mm F G G' ρ = some C := by
  unfold Mm
  rw [h]
theorem ADX {F : Ao} {G G' : GJ} {ρ ρ' : Am} {o : Option Str} (h : G ρ = none) (hF : F ρ = some (.nx ρ')) (h' : G' ρ' = o) : Mm F G G' ρ = o := by
  unfold Mm
  rw [h]
  show Option.bind (F ρ) _ = _
  rw [hF]
  exact h'
theorem lM {b d : D} (h : FJ [b] = some (.bool false)) : K8 [Ng, b, d] = some "BadBounds" := by
  show S8 [.sh Ng, .sh b, .sh d] = _
  unfold S8
  exact pM ((mW (Vo _ h)).trans rfl)
theorem ABR {b d : D} (h1 : FJ [b] = some (.bool true)) (h2 : Ey [b, d] = some (.bool false)) : K8 [Ng, b, d] = some "BadDisk" := by
  show S8 [.sh Ng, .sh b, .sh d] = _
  unfold S8
  exact ADX ((AOD (Vo _ h1)).trans rfl) ((Fb (Vo _ h1)).trans rfl) (pM ((mW (vQ _ h2)).trans rfl))
theorem kinds_of {b d : D} {x : Str} {es : List D} (hm : Hi Fz [b, d] = none) (hx : K8 [Ng, b, d] = some x) (hk : Yv "BadBounds" "BadDisk" x = some es) : HN [b, d] = some (.list es) := by
  refine Cr (o := .rt (.list es)) rfl ?_ rfl
  unfold Wk
  show Aw _ _ [.sh b, .sh d, .no, .no] = _
  refine BJ (ρ' := [.sh b, .sh d, .sh (.list []), .no]) rfl ?_
  refine BJ (ρ' := [.sh b, .sh d, .sh (.list es), .no]) ?_ rfl
  unfold SM
  rw [if_pos ⟨rfl, by decide, by show 2 < 4; decide⟩]
  have hF : YB Fz (Ab (Aa 0) (Ab (Aa 1) Ag)) [.sh b, .sh d, .sh (.list []), .no] = none := by
    show Option.bind (Hi Fz [b, d]) _ = _
    rw [hm]
    rfl
  have hG : YF K8 (Ab (Aa 0) (Ab (Aa 1) Ag)) [.sh b, .sh d, .sh (.list []), .no] = some x := hx
  rw [hF]
  show Option.bind (YF K8 (Ab (Aa 0) (Ab (Aa 1) Ag)) [.sh b, .sh d, .sh (.list []), .no]) _ = _
  rw [hG, Be, hk]
  rfl
theorem ABX {b d y : D} (hm : Hi Fz [b, d] = some y) : HN [b, d] = some (.list []) := by
  refine Cr (o := .rt (.list [])) rfl ?_ rfl
  unfold Wk
  show Aw _ _ [.sh b, .sh d, .no, .no] = _
  refine BJ (ρ' := [.sh b, .sh d, .sh (.list []), .no]) rfl ?_
  refine BJ (ρ' := [.sh b, .sh d, .sh (.list []), .no]) ?_ rfl
  unfold SM
  rw [if_pos ⟨rfl, by decide, by show 2 < 4; decide⟩]
  have hF : YB Fz (Ab (Aa 0) (Ab (Aa 1) Ag)) [.sh b, .sh d, .sh (.list []), .no] = some (.nx [.sh b, .sh d, .sh (.list []), .no]) := by
    show Option.bind (Hi Fz [b, d]) _ = _
    rw [hm]
    rfl
  rw [hF]
theorem ACZ {t w st a h : Nat} {k : Dk} {A B : List Thing} {e o : Int} (d : Dy k (2 ^ t * w) a h A B) (ht : h ≤ t) (t4 : t ≤ 4) (w20 : w ≤ 20) (w1 : 1 ≤ w) : Qh [Mx (Aq t w st) (Bh k) e o] = some ((things (Ci (CV w k a h))).map DN) := by
  have hs : JF [Mx (Aq t w st) (Bh k) e o] = _ := jC (st := st) d (by omega)
  have hz := J8 (k := h) (w := w) (by omega) w1 w20
  have hl := X8 (n := 0) d ht
  have hr := tZ (CV w k a h) (by omega)
  rw [Wm] at hr
  have om : Hk "shelf" (Mx (Aq t w st) (Bh k) e o) = true := Ux (by decide +kernel)
  generalize Mx (Aq t w st) (Bh k) e o = O at *
  generalize (CV w k a h).map encD = SD at *
  refine Hy rfl ?_
  unfold cU
  clear hl hz
  walk_at "pu"
theorem AI1 {B E : D} {e o : Int} : Hk "rows" (Mx B E e o) = true := Ux (by decide +kernel)
end S27
namespace S27
open PySem L2 LL S22
abbrev R (Bo K0 : D) (c wy a h Sz : Int) (s3 s8 : Sl) : Am := [.sh Bo, .sh K0, .sh (.int c), s3, .sh (.int wy), .sh (.int a), .sh (.int h), .sh (.int Sz), s8]
section
variable {Bo K0 : D} {c wy a h Sz : Int} {s3 s8 : Sl}
theorem c4 (n : Int) : (BP (Ae Bx (Aa 4) (Ad (.int n)))) (full (R Bo K0 c wy a h Sz s3 s8)) = some (decide (wy = n)) := by
  show Option.bind (Bx (.int wy) (.int n)) KD = _
  rw [Wc]
  rfl
theorem Qx {n : Int} (e : wy = n) : (BP (Ae Bx (Aa 4) (Ad (.int n)))) (full (R Bo K0 c wy a h Sz s3 s8)) = some true := by rw [c4, decide_eq_true e]
theorem Ji {n : Int} (e : wy ≠ n) : (BP (Ae Bx (Aa 4) (Ad (.int n)))) (full (R Bo K0 c wy a h Sz s3 s8)) = some false := by rw [c4, decide_eq_false e]
theorem pass {n : Int} {A : Ao} (e : wy ≠ n) : Cd (BP (Ae Bx (Aa 4) (Ad (.int n)))) A DK (R Bo K0 c wy a h Sz s3 s8) = some (.nx (R Bo K0 c wy a h Sz s3 s8)) := (Fb (Ji e)).trans rfl
theorem T4 : (GF (BP (Ae Bx (Aa 4) (Ad (.int 4)))) (GF (Gi (BP (Ae Bx (Aa 4) (Ad (.int 8)))) (BP (Ae Ht (Aa 7) (Ad (.int 4))))) (Gi (BP (Ae Bx (Aa 4) (Ad (.int 9)))) (BP (Ae Bx (Aa 6) (Ad (.int 0))))))) (full (R Bo K0 c wy a h Sz s3 s8)) = some (decide (wy = 4) || ((decide (wy = 8) && decide (Sz < 4)) || (decide (wy = 9) && decide (h = 0)))) := by
  have e7 : (BP (Ae Ht (Aa 7) (Ad (.int 4)))) (full (R Bo K0 c wy a h Sz s3 s8)) = some (decide (Sz < 4)) := rfl
  have e6 : (BP (Ae Bx (Aa 6) (Ad (.int 0)))) (full (R Bo K0 c wy a h Sz s3 s8)) = some (decide (h = 0)) := by
    show Option.bind (Bx (.int h) (.int 0)) KD = _
    rw [Wc]
    rfl
  unfold GF Gi
  rw [c4, c4, c4, e7, e6]
  cases decide (wy = 4) <;> cases decide (wy = 8) <;> cases decide (wy = 9) <;> cases decide (Sz < 4) <;> cases decide (h = 0) <;> rfl
end
theorem jK {i : Nat} {fi : PF} {vf : Am → Option Sl} {ρ : Am} {ds : List D} {k : Int} {dss : List (List D)} {u : Nat} (h1 : vf ρ = some (.ow ds)) (h2 : fi (full ρ) = some (.int k)) (h3 : ρ[i]? = some (.on dss)) (h4 : Dz dss.length k = some u) : Iv i fi vf ρ = some (.nx (ρ.set i (.on (dss.set u ds)))) := by
  unfold Iv
  rw [h1, Be, lO, Be, h2, Be, Ls, Be, h3, Be, Qn, Be, h4, Be]
theorem mF {i : Nat} {fi f : PF} {ρ : Am} {ds : List D} {d : D} {k : Int} {dss : List (List D)} {u : Nat} (h1 : f (masked ρ) = some d) (h2 : fi (full ρ) = some (.int k)) (h3 : ρ[i]? = some (.on dss)) (h4 : Dz dss.length k = some u) (h5 : dss[u]? = some ds) (hl : ds.length < 16777216) : Q7 i fi f ρ = some (.nx (ρ.set i (.on (dss.set u (ds ++ [d]))))) := by
  unfold Q7
  rw [h2, Be, Ls, Be, h3, Be, Qn, Be, h4, Be, h5, Be, h1, Be, if_pos (Uz hl)]
theorem v9 {i : Nat} {fi : PF} {ρ : Am} {ds : List D} {k : Int} {dss : List (List D)} {u : Nat} (h2 : fi (full ρ) = some (.int k)) (h3 : ρ[i]? = some (.on dss)) (h4 : Dz dss.length k = some u) (h5 : dss[u]? = some ds) (hn : ds ≠ []) : RG i fi ρ = some (.nx (ρ.set i (.on (dss.set u ds.dropLast)))) := by
  unfold RG
  rw [h2, Be, Ls, Be, h3, Be, Qn, Be, h4, Be, h5, Be, if_neg hn]
theorem AEU {i : Nat} {fi fj : PF} {vf : Am → Option Sl} {ρ : Am} {ds : List D} {d : D} {k m : Int} {dss : List (List D)} {u j : Nat} (h1 : vf ρ = some (.sh d)) (h2 : fi (full ρ) = some (.int k)) (h2' : fj (full ρ) = some (.int m)) (h3 : ρ[i]? = some (.on dss)) (h4 : Dz dss.length k = some u) (h5 : dss[u]? = some ds) (h6 : Dz ds.length m = some j) : Lr i fi fj vf ρ = some (.nx (ρ.set i (.on (dss.set u (ds.set j d))))) := by
  unfold Lr
  rw [h1, Be, dD, Be, h2, Be, Ls, Be, h2', Be, Ls, Be, h3, Be, Qn, Be, h4, Be, h5, Be, h6, Be]
section
variable {Bo K0 : D} {c wy a h Sz : Int} {s3 s8 : Sl}
theorem Xa : (Ae Bl (Ae CJ (Aa 2) (Ad (.int 8))) (Ad (.int 2))) (full (R Bo K0 c wy a h Sz s3 s8)) = some (.int (c / 8 % 2)) := by
  show Option.bind (Option.bind (some (PyData.int c)) fun x => CJ x (.int 8)) (fun x => Bl x (.int 2)) = _
  rw [Be]
  have : CJ (.int c) (.int 8) = some (.int (c / 8)) := by walk_at "pu"
  rw [this, Be]
  walk_at "pu"
theorem AEk : (Ae Bl (Ae CJ (Aa 2) (Ad (.int 8))) (Ad (.int 2))) (masked (R Bo K0 c wy a h Sz s3 s8)) = some (.int (c / 8 % 2)) := by
  show Option.bind (Option.bind (some (PyData.int c)) fun x => CJ x (.int 8)) (fun x => Bl x (.int 2)) = _
  rw [Be]
  have : CJ (.int c) (.int 8) = some (.int (c / 8)) := by walk_at "pu"
  rw [this, Be]
  walk_at "pu"
theorem AMs : (Ae Bl (Ae CJ (Aa 2) (Ad (.int 8))) (Ad (.int 4))) (masked (R Bo K0 c wy a h Sz s3 s8)) = some (.int (c / 8 % 4)) := by
  show Option.bind (Option.bind (some (PyData.int c)) fun x => CJ x (.int 8)) (fun x => Bl x (.int 4)) = _
  rw [Be]
  have : CJ (.int c) (.int 8) = some (.int (c / 8)) := by walk_at "pu"
  rw [this, Be]
  walk_at "pu"
end
theorem ANo {t w a h : Nat} {k : Dk} {A B : List Thing} (d : Dy k (2 ^ t * w) a h A B) (X : List Thing) (hX : X.length = 2 ^ t * w) : ∃ k' A' B', Dy k' (2 ^ t * w) a h A' B' ∧ CV w k' a h = X.take (2 ^ h * w) ∧ PyData.list ((([A.map encD, B.map encD, [some ((a : Int), (h : Int))].map encD] : List (List D)).set a (X.map encD)).map PyData.list) = Bh k' := by
  have a2 := d.a2
  rcases (by omega : a = 0 ∨ a = 1) with rfl | rfl
  · exact ⟨[X, B, [some (((0 : Nat) : Int), (h : Int))]], X, B, ⟨rfl, hX, d.lB, by decide⟩, rfl, rfl⟩
  · exact ⟨[A, X, [some (((1 : Nat) : Int), (h : Int))]], A, X, ⟨rfl, d.lA, hX, by decide⟩, rfl, rfl⟩
theorem AIy {t w a h : Nat} {k : Dk} {A B : List Thing} (d : Dy k (2 ^ t * w) a h A B) : ∃ Z : List Thing, Z.length = 2 ^ t * w ∧ ([A.map encD, B.map encD, [some ((a : Int), (h : Int))].map encD] : List (List D))[a]? = some (Z.map encD) ∧ Az (.list [encL A, encL B, encL [some ((a : Int), (h : Int))]]) (.int (a : Int)) = some (encL Z) ∧ Dz 3 (a : Int) = some a := by
  have a2 := d.a2
  rcases (by omega : a = 0 ∨ a = 1) with rfl | rfl
  · exact ⟨A, d.lA, rfl, rfl, rfl⟩
  · exact ⟨B, d.lB, rfl, rfl, rfl⟩
theorem AIo {t w st a h : Nat} {k : Dk} {A B : List Thing} (bd : Bd (t : Int) (w : Int) (st : Int)) (d : Dy k (2 ^ t * w) a h A B) (ht : h ≤ t) (hb : ¬ (Ef (Ci (CV w k a h)) ∧ (((Ci (CV w k a h)).filter Eg).length : Int) ≤ 2 ^ h * ((w : Int) - (h : Int) * (st : Int)))) : Ey [Aq t w st, Bh k] = some (.bool false) := by
  rw [iD (n := 0) bd d ht]
  congr 2
  by_cases q1 : Ef (Ci (CV w k a h))
  · rw [decide_eq_true q1, decide_eq_false (fun z => hb ⟨q1, z⟩)]
    rfl
  · rw [decide_eq_false q1]
    rfl
theorem AL4 {t w st a h : Nat} {k : Dk} {A B : List Thing} (bd : Bd (t : Int) (w : Int) (st : Int)) (d : Dy k (2 ^ t * w) a h A B) (ht : h ≤ t) (c : Int) : ∃ x, IK [Aq t w st, Bh k, .int c] = some x ∧ Ey [Aq t w st, x] = some (.bool false) := by
  have t4 : t ≤ 4 := by have := bd.t4; omega
  have w20 : w ≤ 20 := by have := bd.hi; omega
  have hw1 := bd.w1
  have hN := J8 (k := t) (w := w) t4 (by omega) w20
  have hz := J8 (k := h) (w := w) (by omega) (by omega) w20
  have hpow : 2 ^ h * w ≤ 2 ^ t * w := Nat.mul_le_mul_right w (Nat.pow_le_pow_right (by decide) ht)
  obtain ⟨r2, rw', rh, rt⟩ := room bd ht
  have w2 : 2 ≤ w := by omega
  have hz2 : 2 ≤ 2 ^ h * w := by
    have : 1 * w ≤ 2 ^ h * w := Nat.mul_le_mul_right w (Nat.pow_pos (by decide))
    omega
  have lA := d.lA
  have lB := d.lB
  have a2 := d.a2
  have fA : Fq (encL A) := Lz (by rw [lA]; omega)
  have fB : Fq (encL B) := Lz (by rw [lB]; omega)
  have fS : Fq (encL [some ((a : Int), (h : Int))]) := Lz (by simp)
  have m10 := Ej c (b := 10) (by decide)
  have Ku : ∀ (x0 x2 x3 x4 x5 x6 x7 x8 : Option D), Kp (Dw (Aa 1)) (Cg 0) Cq (Bm Fy (Ab (Aa 0) Ag)) 1 [] [x0, some (.list [encL A, encL B, encL [some ((a : Int), (h : Int))]]), x2, x3, x4, x5, x6, x7, x8] = some [A.map encD, B.map encD, [some ((a : Int), (h : Int))].map encD] := fun _ _ _ _ _ _ _ _ => uD rfl (by simp)
  rw [ACu d]
  have Hv := Xm (h := (h : Int)) (by omega) (by omega)
  rw [Vx] at Hv
  have hmul : ((2 ^ h : Nat) : Int) * (w : Int) = ((2 ^ h * w : Nat) : Int) := by push_cast; rfl
  have hsm : (small ((2 ^ h : Nat) : Int) || small (w : Int)) = true := by
    rw [Bool.or_eq_true_iff]
    right
    rw [Vh]
    exact decide_eq_true ⟨by omega, by omega⟩
  have hd1 : DX (.int ((2 ^ h : Nat) : Int)) (.int (w : Int)) = some (.int ((2 ^ h * w : Nat) : Int)) := by rw [U9, if_pos hsm, hmul]
  have start : ∀ (F : Ao) (o : D), F (R (Aq t w st) (.list [encL A, encL B, encL [some ((a : Int), (h : Int))]]) c (c % 10) a h ((2 ^ h * w : Nat) : Int) (.on [A.map encD, B.map encD, [some ((a : Int), (h : Int))].map encD]) .no) = some (.rt o) →
      (Aw (Bb 3 (vN (Kp (Dw (Aa 1)) (Cg 0) Cq (Bm Fy (Ab (Aa 0) Ag)) 1 [])))
      (Aw (Bb 4 (vS (Ae Bl (Aa 2) (Ad (.int 10)))))
      (Aw (Qd (Ha 5 6) (vS (Ae Az (Ae Az (Aa 1) (Ad (.int 2))) (Ad (.int 0)))))
      (Aw (Bb 7 (vS (Ae DX (Ar Gw (Ab (Aa 6) Ag)) (Ae Az (Aa 0) (Ad (.int 1)))))) F)))) (GX 9 [Aq t w st, .list [encL A, encL B, encL [some ((a : Int), (h : Int))]], .int c]) = some (.rt o) := by
    intro F o hF
    show Aw _ _ [.sh (Aq t w st), .sh (.list [encL A, encL B, encL [some ((a : Int), (h : Int))]]), .sh (.int c), .no, .no, .no, .no, .no, .no] = _
    refine BJ (ρ' := [.sh (Aq t w st), .sh (.list [encL A, encL B, encL [some ((a : Int), (h : Int))]]), .sh (.int c), .on [A.map encD, B.map encD, [some ((a : Int), (h : Int))].map encD], .no, .no, .no, .no, .no]) (AGz 3 (Ku _ _ _ _ _ _ _ _)) ?_
    refine BJ (ρ' := [.sh (Aq t w st), .sh (.list [encL A, encL B, encL [some ((a : Int), (h : Int))]]), .sh (.int c), .on [A.map encD, B.map encD, [some ((a : Int), (h : Int))].map encD], .sh (.int (c % 10)), .no, .no, .no, .no]) (by
      clear hF Ku fA fB fS
      generalize ([A.map encD, B.map encD, [some ((a : Int), (h : Int))].map encD] : List (List D)) = DS at *
      generalize PyData.list [encL A, encL B, encL [some ((a : Int), (h : Int))]] = K0 at *
      generalize Aq t w st = Bo at *
      walk_at "pu") ?_
    refine BJ (ρ' := [.sh (Aq t w st), .sh (.list [encL A, encL B, encL [some ((a : Int), (h : Int))]]), .sh (.int c), .on [A.map encD, B.map encD, [some ((a : Int), (h : Int))].map encD], .sh (.int (c % 10)), .sh (.int (a : Int)), .sh (.int (h : Int)), .no, .no]) rfl ?_
    refine BJ ?_ hF
    show Option.bind (Option.bind (Option.bind (Option.bind (some [PyData.int (h : Int)]) Gw) fun x => DX x (.int (w : Int))) _) _ = _
    rw [Be, Hv, Be, hd1]
    rfl
  have e0 : ∀ o, _ → IK [Aq t w st, .list [encL A, encL B, encL [some ((a : Int), (h : Int))]], .int c] = some o := fun o hF => Cr (o := .rt o) rfl (start _ o hF) rfl
  generalize hSz : ((2 ^ h * w : Nat) : Int) = Sz at *
  generalize hwy : c % 10 = wy at *
  have two : c / 8 % 2 = 0 ∨ c / 8 % 2 = 1 := by omega
  have m2 := Ej (c / 8) (b := 2) (by decide)
  have m4 := Ej (c / 8) (b := 4) (by decide)
  clear start Ku
  have res : ∀ (X Y Z : List D), (∀ X Y Z : List D, (Br (Aa 3)) (R (Aq t w st) (.list [encL A, encL B, encL [some ((a : Int), (h : Int))]]) c wy a h Sz (.on [X, Y, Z]) .no) = some (.rt (.list [.list X, .list Y, .list Z]))) := fun _ _ _ X Y Z => rfl
  by_cases y0 : wy = 0
  · obtain ⟨v, hv, ev⟩ := Jb ([.none, .tuple [encL A, encL B, encL [some ((a : Int), (h : Int))]], .list [encL A, encL B], .list []] : List D) (i := c / 8 % 4) m4.1 m4.2
    refine ⟨v, e0 v (Ja ((J5 (Qx y0)).trans ?_)), Lf ?_⟩
    · have AOt : cutD [encL A, encL B, encL [some ((a : Int), (h : Int))]] none (some 2) = [encL A, encL B] := rfl
      have et : V4 [.list [encL A, encL B, encL [some ((a : Int), (h : Int))]]] = some (.tuple [encL A, encL B, encL [some ((a : Int), (h : Int))]]) := rfl
      have evw : Sl.view (.on [A.map encD, B.map encD, [some ((a : Int), (h : Int))].map encD]) = some (.list [encL A, encL B, encL [some ((a : Int), (h : Int))]]) := rfl
      generalize encL [some ((a : Int), (h : Int))] = SG at *
      generalize encL A = LA at *
      generalize encL B = LB at *
      generalize Sl.on [A.map encD, B.map encD, [some ((a : Int), (h : Int))].map encD] = SN at *
      generalize Aq t w st = Bo at *
      clear e0 res hv fA fB fS bd d
      walk_at "pu"
    · simp only [List.mem_cons, List.mem_nil_iff, or_false] at hv
      rcases hv with rfl | rfl | rfl | rfl
      · exact YG trivial (fun ds z => by cases z)
      · exact YG (show 3 < 16777216 by decide) (fun ds z => by cases z)
      · exact YG (show 2 < 16777216 by decide) (fun ds z => by cases z; show 2 ≠ 3; decide)
      · exact YG (show 0 < 16777216 by decide) (fun ds z => by cases z; show 0 ≠ 3; decide)
  have fin : ∀ (DS' : List (List D)) (s8 : Sl), (Br (Aa 3)) (R (Aq t w st) (.list [encL A, encL B, encL [some ((a : Int), (h : Int))]]) c wy a h Sz (.on DS') s8) = some (.rt (.list (DS'.map PyData.list))) := fun DS' s8 => rfl
  by_cases y1 : wy = 1
  · obtain ⟨v, hv, ev⟩ := Jb ([[.tuple [.int 2, .int 0]], [.tuple [.int 0, .int ((t : Int) + 1)]], [.tuple [.int 0, .int 0], .tuple [.int 0, .int 0]], [.none]] : List (List D)) (i := c / 8 % 4) m4.1 m4.2
    have hsg : Fq (.list v) ∧ Q6 t (.list v) = false := by
      have f1 : ∀ x : D, Fits x → Fq (.list [x]) := fun x hx => ⟨show 1 < 16777216 by decide, fun y hy => by rw [List.mem_singleton.mp hy]; exact hx⟩
      have f2 : ∀ x y : D, Fits (.tuple [x, y]) := fun x y => show 2 < 16777216 by decide
      simp only [List.mem_cons, List.mem_nil_iff, or_false] at hv
      rcases hv with rfl | rfl | rfl | rfl
      · exact ⟨f1 _ (f2 _ _), rfl⟩
      · refine ⟨f1 _ (f2 _ _), ?_⟩
        show ((decide ((0 : Int) ≤ 0) && decide ((0 : Int) ≤ 1)) && (decide (0 ≤ (t : Int) + 1) && decide ((t : Int) + 1 ≤ (t : Int)))) = false
        rw [decide_eq_false (by omega : ¬ ((t : Int) + 1 ≤ (t : Int))), Bool.and_false, Bool.and_false]
      · refine ⟨⟨show 2 < 16777216 by decide, fun y hy => ?_⟩, rfl⟩
        rcases List.mem_cons.mp hy with rfl | hy
        · exact f2 _ _
        · rw [List.mem_singleton.mp hy]; exact f2 _ _
      · exact ⟨f1 _ trivial, rfl⟩
    refine ⟨_, e0 _ (BJ (pass y0) (BJ ((J5 (Qx y1)).trans (jK (ds := v) (k := 2) (dss := [A.map encD, B.map encD, [some ((a : Int), (h : Int))].map encD]) (u := 2) ?_ rfl rfl rfl)) (BJ (pass (by omega)) (BJ (pass (by omega)) (BJ ((Fb ?_).trans ((Fb (Ji (by omega))).trans ((Fb (Ji (by omega))).trans ((Fb ?_).trans rfl)))) (fin _ _)))))), Lf (Ph t4 fA fB hsg.1 (.inr (.inr hsg.2)))⟩
    · have h1 : (U3 (JB (CQ (Ab (Bt (Ab (Ad (.int 2)) (Ab (Ad (.int 0)) Ag))) Ag)) (JB (CQ (Ab (Bt (Ab (Ad (.int 0)) (Ab (Ae Df (Ae Az (Aa 0) (Ad (.int 0))) (Ad (.int 1))) Ag))) Ag)) (JB (CQ (Ab (Bt (Ab (Ad (.int 0)) (Ab (Ad (.int 0)) Ag))) (Ab (Bt (Ab (Ad (.int 0)) (Ab (Ad (.int 0)) Ag))) Ag))) (JB (CQ (Ab (Ad .none) Ag)) Vk))))) (masked (R (Aq t w st) (.list [encL A, encL B, encL [some ((a : Int), (h : Int))]]) c wy a h Sz (.on [A.map encD, B.map encD, [some ((a : Int), (h : Int))].map encD]) .no)) = some [[.tuple [.int 2, .int 0]], [.tuple [.int 0, .int ((t : Int) + 1)]], [.tuple [.int 0, .int 0], .tuple [.int 0, .int 0]], [.none]] := rfl
      unfold vL Xj
      rw [h1, Be, AMs, Be, Ls, Be]
      have ev' : Option.bind (Dz 4 (c / 8 % 4)) (fun u => ([[.tuple [.int 2, .int 0]], [.tuple [.int 0, .int ((t : Int) + 1)]], [.tuple [.int 0, .int 0], .tuple [.int 0, .int 0]], [.none]] : List (List D))[u]?) = some v := ev
      show Option.bind (Option.bind (Dz 4 (c / 8 % 4)) (fun u => ([[.tuple [.int 2, .int 0]], [.tuple [.int 0, .int ((t : Int) + 1)]], [.tuple [.int 0, .int 0], .tuple [.int 0, .int 0]], [.none]] : List (List D))[u]?)) _ = _
      rw [ev']
      rfl
    · rw [T4, decide_eq_false (by omega : ¬ wy = 4), decide_eq_false (by omega : ¬ wy = 8), decide_eq_false (by omega : ¬ wy = 9)]
      rfl
    · show some (decide (wy > 4)) = _
      rw [decide_eq_false (by omega : ¬ wy > 4)]
  by_cases y2 : wy = 2
  · have rest : ∀ DS' : List (List D), Q7 3 (Ae Bl (Ae CJ (Aa 2) (Ad (.int 8))) (Ad (.int 2))) (Bt Ag) (R (Aq t w st) (.list [encL A, encL B, encL [some ((a : Int), (h : Int))]]) c wy a h Sz (.on [A.map encD, B.map encD, [some ((a : Int), (h : Int))].map encD]) .no) = some (.nx (R (Aq t w st) (.list [encL A, encL B, encL [some ((a : Int), (h : Int))]]) c wy a h Sz (.on DS') .no)) → IK [Aq t w st, .list [encL A, encL B, encL [some ((a : Int), (h : Int))]], .int c] = some (.list (DS'.map PyData.list)) := fun DS' hs => e0 _ (BJ (pass y0) (BJ (pass y1) (BJ ((J5 (Qx y2)).trans hs) (BJ (pass (by omega)) (BJ ((Fb (by
        rw [T4, decide_eq_false (by omega : ¬ wy = 4), decide_eq_false (by omega : ¬ wy = 8), decide_eq_false (by omega : ¬ wy = 9)]
        rfl)).trans ((Fb (Ji (by omega))).trans ((Fb (Ji (by omega))).trans ((Fb (by
          show some (decide (wy > 4)) = _
          rw [decide_eq_false (by omega : ¬ wy > 4)])).trans rfl)))) (fin _ _))))))
    have long : ∀ Z : List Thing, Z.length = 2 ^ t * w → Fq (.list (Z.map encD ++ [.tuple []])) ∧ GK (2 ^ t * w) (.list (Z.map encD ++ [.tuple []])) = false := fun Z hZ => ⟨AHh Z (by omega), by
      have : GK (2 ^ t * w) (.list (Z.map encD ++ [.tuple []])) = (decide ((Z.map encD ++ [PyData.tuple []]).length = 2 ^ t * w) && (Z.map encD ++ [PyData.tuple []]).all isPlace) := rfl
      rw [this, decide_eq_false (by rw [List.length_append, List.length_map, hZ]; simp)]
      rfl⟩
    rcases two with e | e
    · have hs := rest _ (mF (d := .tuple []) (k := 0) (u := 0) (ds := A.map encD) rfl (by rw [Xa, e]) rfl rfl rfl (by rw [List.length_map, lA]; omega))
      exact ⟨_, hs, Lf (Ph t4 (long A lA).1 fB fS (.inl (long A lA).2))⟩
    · have hs := rest _ (mF (d := .tuple []) (k := 1) (u := 1) (ds := B.map encD) rfl (by rw [Xa, e]) rfl rfl rfl (by rw [List.length_map, lB]; omega))
      exact ⟨_, hs, Lf (Ph t4 fA (long B lB).1 fS (.inr (.inl (long B lB).2)))⟩
  by_cases y3 : wy = 3
  · have rest : ∀ DS' : List (List D), RG 3 (Ae Bl (Ae CJ (Aa 2) (Ad (.int 8))) (Ad (.int 2))) (R (Aq t w st) (.list [encL A, encL B, encL [some ((a : Int), (h : Int))]]) c wy a h Sz (.on [A.map encD, B.map encD, [some ((a : Int), (h : Int))].map encD]) .no) = some (.nx (R (Aq t w st) (.list [encL A, encL B, encL [some ((a : Int), (h : Int))]]) c wy a h Sz (.on DS') .no)) → IK [Aq t w st, .list [encL A, encL B, encL [some ((a : Int), (h : Int))]], .int c] = some (.list (DS'.map PyData.list)) := fun DS' hs => e0 _ (BJ (pass y0) (BJ (pass y1) (BJ (pass y2) (BJ ((J5 (Qx y3)).trans hs) (BJ ((Fb (by
        rw [T4, decide_eq_false (by omega : ¬ wy = 4), decide_eq_false (by omega : ¬ wy = 8), decide_eq_false (by omega : ¬ wy = 9)]
        rfl)).trans ((Fb (Ji (by omega))).trans ((Fb (Ji (by omega))).trans ((Fb (by
          show some (decide (wy > 4)) = _
          rw [decide_eq_false (by omega : ¬ wy > 4)])).trans rfl)))) (fin _ _))))))
    have short : ∀ Z : List Thing, Z.length = 2 ^ t * w → Fq (.list (Z.map encD).dropLast) ∧ GK (2 ^ t * w) (.list (Z.map encD).dropLast) = false := fun Z hZ => by
      have e : (Z.map encD).dropLast = Z.dropLast.map encD := by rw [List.map_dropLast]
      rw [e]
      refine ⟨Lz (by rw [List.length_dropLast]; omega), ?_⟩
      have := Zy (ts := Z.dropLast) (n := 2 ^ t * w)
      have e2 : encL Z.dropLast = .list (Z.dropLast.map encD) := rfl
      rw [e2] at this
      rw [this, decide_eq_false (by rw [List.length_dropLast]; omega)]
    have ne : ∀ Z : List Thing, Z.length = 2 ^ t * w → Z.map encD ≠ [] := fun Z hZ z => by
      have := congrArg List.length z
      rw [List.length_map, hZ] at this
      simp at this
      omega
    rcases two with e | e
    · have hs := rest _ (v9 (k := 0) (u := 0) (ds := A.map encD) (by rw [Xa, e]) rfl rfl rfl (ne A lA))
      exact ⟨_, hs, Lf (Ph t4 (short A lA).1 fB fS (.inl (short A lA).2))⟩
    · have hs := rest _ (v9 (k := 1) (u := 1) (ds := B.map encD) (by rw [Xa, e]) rfl rfl rfl (ne B lB))
      exact ⟨_, hs, Lf (Ph t4 fA (short B lB).1 fS (.inr (.inl (short B lB).2)))⟩
  obtain ⟨Z, lZ, gZ, iZ, xZ⟩ := AIy d
  have fresh : ∀ (Y : List Thing) (vf : Am → Option Sl), Y.length = 2 ^ t * w → vf (R (Aq t w st) (.list [encL A, encL B, encL [some ((a : Int), (h : Int))]]) c wy a h Sz (.on [A.map encD, B.map encD, [some ((a : Int), (h : Int))].map encD]) .no) = some (.ow (Y.map encD)) →
      ¬ (Ef (Ci (Y.take (2 ^ h * w))) ∧ (((Ci (Y.take (2 ^ h * w))).filter Eg).length : Int) ≤ 2 ^ h * ((w : Int) - (h : Int) * (st : Int))) →
      (∀ o, Iv 3 (Aa 5) vf (R (Aq t w st) (.list [encL A, encL B, encL [some ((a : Int), (h : Int))]]) c wy a h Sz (.on [A.map encD, B.map encD, [some ((a : Int), (h : Int))].map encD]) .no) = some (.nx (R (Aq t w st) (.list [encL A, encL B, encL [some ((a : Int), (h : Int))]]) c wy a h Sz (.on o) .no)) → IK [Aq t w st, .list [encL A, encL B, encL [some ((a : Int), (h : Int))]], .int c] = some (.list (o.map PyData.list))) →
      ∃ x, IK [Aq t w st, .list [encL A, encL B, encL [some ((a : Int), (h : Int))]], .int c] = some x ∧ Ey [Aq t w st, x] = some (.bool false) := by
    intro Y vf lY hv hb go
    obtain ⟨k', A', B', d', hsh, hek⟩ := ANo d Y lY
    refine ⟨_, go _ (jK (ds := Y.map encD) (k := (a : Int)) (u := a) hv rfl rfl xZ), ?_⟩
    rw [hek]
    exact AIo bd d' ht (by rw [hsh]; exact hb)
  have vw : (Ae Az (Aa 3) (Aa 5)) (full (R (Aq t w st) (.list [encL A, encL B, encL [some ((a : Int), (h : Int))]]) c wy a h Sz (.on [A.map encD, B.map encD, [some ((a : Int), (h : Int))].map encD]) .no)) = some (encL Z) := by
    show Az (.list [encL A, encL B, encL [some ((a : Int), (h : Int))]]) (.int (a : Int)) = _
    exact iZ
  have AEQ : ∀ n : Nat, cutD (Z.map encD) (some (n : Int)) none = (Z.drop n).map encD := fun n => mZ encD Z n
  have lf : ∀ (P : List Thing) (fP : PF) (fn : Bc → Option (Option Int)) (n : Nat), fP (full (R (Aq t w st) (.list [encL A, encL B, encL [some ((a : Int), (h : Int))]]) c wy a h Sz (.on [A.map encD, B.map encD, [some ((a : Int), (h : Int))].map encD]) .no)) = some (.list (P.map encD)) → P.length ≤ 320 → fn (full (R (Aq t w st) (.list [encL A, encL B, encL [some ((a : Int), (h : Int))]]) c wy a h Sz (.on [A.map encD, B.map encD, [some ((a : Int), (h : Int))].map encD]) .no)) = some (some (n : Int)) →
      Kd (Gy fP (BV (Fl (Ae Az (Aa 3) (Aa 5)) fn Gs))) (R (Aq t w st) (.list [encL A, encL B, encL [some ((a : Int), (h : Int))]]) c wy a h Sz (.on [A.map encD, B.map encD, [some ((a : Int), (h : Int))].map encD]) .no) = some (.ow ((P ++ Z.drop n).map encD)) := by
    intro P fP fn n h1 hl h2
    have hsl : Fl (Ae Az (Aa 3) (Aa 5)) fn Gs (full (R (Aq t w st) (.list [encL A, encL B, encL [some ((a : Int), (h : Int))]]) c wy a h Sz (.on [A.map encD, B.map encD, [some ((a : Int), (h : Int))].map encD]) .no)) = some ((Z.drop n).map encD) := by
      unfold Fl
      rw [vw, Be, h2, Be]
      show some (cutD (Z.map encD) (some (n : Int)) none) = _
      rw [AEQ]
    have Rv : Gy fP (BV (Fl (Ae Az (Aa 3) (Aa 5)) fn Gs)) (full (R (Aq t w st) (.list [encL A, encL B, encL [some ((a : Int), (h : Int))]]) c wy a h Sz (.on [A.map encD, B.map encD, [some ((a : Int), (h : Int))].map encD]) .no)) = some ((P ++ Z.drop n).map encD) := by
      unfold Gy BV
      rw [h1, Be, hsl]
      show (if fits ((P.map encD).length + ((Z.drop n).map encD).length) = true then some (P.map encD ++ (Z.drop n).map encD) else none) = _
      rw [if_pos (Uz (by rw [List.length_map, List.length_map, List.length_drop]; omega)), List.map_append]
    unfold Kd
    rw [Rv, Be, if_pos (Ru _)]
  by_cases big : wy = 4 ∨ (wy = 8 ∧ Sz < 4) ∨ (wy = 9 ∧ (h : Int) = 0)
  · refine fresh ([some (5, 1), some (4, 1)] ++ Z.drop 2) _ (by rw [List.length_append, List.length_drop]; simp; omega) (lf [some (5, 1), some (4, 1)] _ _ 2 rfl (by simp) rfl) (fun z => ?_) (fun o hs => e0 _ (BJ (pass y0) (BJ (pass y1) (BJ (pass y2) (BJ (pass y3) (BJ ((J5 ?_).trans hs) (fin _ _)))))))
    · obtain ⟨m, hm⟩ : ∃ m, 2 ^ h * w = m + 2 := ⟨2 ^ h * w - 2, by omega⟩
      have ht2 : things (([some (5, 1), some (4, 1)] ++ Z.drop 2).take (2 ^ h * w)) = (5, 1) :: (4, 1) :: things ((Z.drop 2).take m) := by
        rw [hm]
        rfl
      exact AGV (f := (5, 1)) (z := (4, 1)) (by rw [ht2]; rfl) (by rw [ht2]; simp) (by decide) z.1
    · rw [T4]
      rcases big with e | ⟨e1, e2⟩ | ⟨e1, e2⟩
      · rw [decide_eq_true e]; rfl
      · rw [decide_eq_true e1, decide_eq_true e2]; simp
      · rw [decide_eq_true e1, decide_eq_true e2]; simp
  have U7 : (GF (BP (Ae Bx (Aa 4) (Ad (.int 4)))) (GF (Gi (BP (Ae Bx (Aa 4) (Ad (.int 8)))) (BP (Ae Ht (Aa 7) (Ad (.int 4))))) (Gi (BP (Ae Bx (Aa 4) (Ad (.int 9)))) (BP (Ae Bx (Aa 6) (Ad (.int 0))))))) (full (R (Aq t w st) (.list [encL A, encL B, encL [some ((a : Int), (h : Int))]]) c wy a h Sz (.on [A.map encD, B.map encD, [some ((a : Int), (h : Int))].map encD]) .no)) = some false := by
    rw [T4]
    refine congrArg some ?_
    by_cases q4 : wy = 4
    · exact absurd (.inl q4) big
    · by_cases q8 : wy = 8
      · have q9 : ¬ wy = 9 := by omega
        have qs : ¬ Sz < 4 := fun z => big (.inr (.inl ⟨q8, z⟩))
        simp [q4, q8, q9, qs]
      · by_cases q9 : wy = 9
        · have qh : ¬ ((h : Int) = 0) := fun z => big (.inr (.inr ⟨q9, z⟩))
          simp only [decide_eq_false q4, decide_eq_false q8, decide_eq_true q9, decide_eq_false qh]
          rfl
        · simp [q4, q8, q9]
  by_cases y8 : wy = 8
  · have hS4 : 4 ≤ 2 ^ h * w := by
      have : ¬ Sz < 4 := fun z => big (.inr (.inl ⟨y8, z⟩))
      omega
    refine fresh ([some (4, 1), some (4, 1), some (5, 1), some (5, 1)] ++ Z.drop 4) _ (by rw [List.length_append, List.length_drop]; simp; omega) (lf [some (4, 1), some (4, 1), some (5, 1), some (5, 1)] _ _ 4 rfl (by simp) rfl) (fun z => ?_) (fun o hs => e0 _ (BJ (pass y0) (BJ (pass y1) (BJ (pass y2) (BJ (pass y3) (BJ ((Fb U7).trans ((J5 (Qx y8)).trans hs)) (fin _ _)))))))
    obtain ⟨m, hm⟩ : ∃ m, 2 ^ h * w = m + 4 := ⟨2 ^ h * w - 4, by omega⟩
    have ht2 : things (([some (4, 1), some (4, 1), some (5, 1), some (5, 1)] ++ Z.drop 4).take (2 ^ h * w)) = (4, 1) :: (4, 1) :: (5, 1) :: (5, 1) :: things ((Z.drop 4).take m) := by
      rw [hm]
      rfl
    exact AGD (x := (4, 1)) (z := (5, 1)) (by rw [ht2]; simp [List.count_cons]) (by rw [ht2]; simp [List.count_cons]) (by decide) z.1
  by_cases y9 : wy = 9
  · have hh : ¬ ((h : Int) = 0) := fun z => big (.inr (.inr ⟨y9, z⟩))
    have hcap := yQ (t := t) (w := w) (st := st) (h := h) (by omega)
    rw [Vx] at hcap
    have hcz : 2 ≤ ((2 ^ h : Nat) : Int) * ((w : Int) - (h : Int) * (st : Int)) ∧ ((2 ^ h : Nat) : Int) * ((w : Int) - (h : Int) * (st : Int)) + 1 ≤ ((2 ^ h * w : Nat) : Int) := by
      have p1 : 1 ≤ 2 ^ h := Nat.pow_pos (by decide)
      have rh' := rh (by omega)
      generalize hq : (w : Int) - (h : Int) * (st : Int) = q at *
      rw [Int.natCast_mul]
      generalize 2 ^ h = P at *
      have a1 : (1 : Int) * 2 ≤ (P : Int) * q := Int.mul_le_mul (by omega) r2 (by decide) (by omega)
      have a3 : (P : Int) * q ≤ (P : Int) * ((w : Int) - 1) := Int.mul_le_mul_of_nonneg_left rh' (by omega)
      rw [Int.mul_sub, Int.mul_one] at a3
      exact ⟨by omega, by omega⟩
    have hpc : (2 : Int) ^ h * ((w : Int) - (h : Int) * (st : Int)) = ((2 ^ h : Nat) : Int) * ((w : Int) - (h : Int) * (st : Int)) := by rw [Int.natCast_pow]; rfl
    rw [hpc] at fresh
    generalize hC : ((2 ^ h : Nat) : Int) * ((w : Int) - (h : Int) * (st : Int)) = cap at *
    obtain ⟨Y, hY, rY, lY, nY⟩ := nF (hh := h) c (cap + 1) bd (by omega)
    have hY' : JK [Aq t w st, .int (h : Int), .int c, .int (cap + 1)] = some (Y.map encD) := hY
    have hfP : (BV (Bm JK (Ab (Aa 0) (Ab (Aa 6) (Ab (Aa 2) (Ab (Ae Df (Ar Jc (Ab (Aa 0) (Ab (Aa 6) Ag))) (Ad (.int 1))) Ag)))))) (full (R (Aq t w st) (.list [encL A, encL B, encL [some ((a : Int), (h : Int))]]) c wy a h Sz (.on [A.map encD, B.map encD, [some ((a : Int), (h : Int))].map encD]) .no)) = some (.list (Y.map encD)) := by
      have X4 : Jc [Aq t w st, .int (h : Int)] = some (.int cap) := hcap
      generalize Sl.on [A.map encD, B.map encD, [some ((a : Int), (h : Int))].map encD] = SN at *
      generalize PyData.list [encL A, encL B, encL [some ((a : Int), (h : Int))]] = K0 at *
      generalize Aq t w st = Bo at *
      generalize Y.map encD = YD at *
      clear e0 res fresh lf vw U7 fin hY hcap
      walk_at "pu"
    refine fresh (Y ++ Z.drop (2 ^ h * w)) _ (by rw [List.length_append, List.length_drop]; omega) (lf Y _ _ (2 ^ h * w) hfP (by omega) (by rw [hSz]; rfl)) (fun z => ?_) (fun o hs => e0 _ (BJ (pass y0) (BJ (pass y1) (BJ (pass y2) (BJ (pass y3) (BJ ((Fb U7).trans ((Fb (Ji y8)).trans ((J5 (Qx y9)).trans hs))) (fin _ _)))))))
    have hty : (Y ++ Z.drop (2 ^ h * w)).take (2 ^ h * w) = Y := List.take_left' lY
    rw [hty, Ww rY, vZ, oM] at z
    have := z.2
    omega
  have y5 : wy = 5 ∨ wy = 6 ∨ wy = 7 := by omega
  obtain ⟨v, hv, ev⟩ := Jb ([.none, .tuple [.int 1, .int 2, .int 3], .list [.int 1, .int 2]] : List D) (i := wy - 5) (by omega) (by simp; omega)
  have hvp : Fits v ∧ isPlace v = false := by
    simp only [List.mem_cons, List.mem_nil_iff, or_false] at hv
    rcases hv with rfl | rfl | rfl
    · exact ⟨trivial, rfl⟩
    · exact ⟨show 3 < 16777216 by decide, rfl⟩
    · exact ⟨show 2 < 16777216 by decide, rfl⟩
  have mN := Ej (c / 16) (b := ((2 ^ t * w : Nat) : Int)) (by omega)
  obtain ⟨j, hj⟩ := Int.eq_ofNat_of_zero_le mN.1
  have jl : j < 2 ^ t * w := by omega
  have place : ∀ (u : Nat) (Q : List Thing), c / 8 % 2 = (u : Int) → u < 2 → Q.length = 2 ^ t * w → ([A.map encD, B.map encD, [some ((a : Int), (h : Int))].map encD] : List (List D))[u]? = some (Q.map encD) → IK [Aq t w st, .list [encL A, encL B, encL [some ((a : Int), (h : Int))]], .int c] = some (.list ((([A.map encD, B.map encD, [some ((a : Int), (h : Int))].map encD] : List (List D)).set u ((Q.map encD).set j v)).map PyData.list)) := by
    intro u Q hu u2 lQ gQ
    refine e0 _ (BJ (pass y0) (BJ (pass y1) (BJ (pass y2) (BJ (pass y3) (BJ ((Fb U7).trans ((Fb (Ji y8)).trans ((Fb (Ji y9)).trans ((J5 ?_).trans (BJ (ρ' := R (Aq t w st) (.list [encL A, encL B, encL [some ((a : Int), (h : Int))]]) c wy a h Sz (.on [A.map encD, B.map encD, [some ((a : Int), (h : Int))].map encD]) (.sh (.int (u : Int)))) ?_ (AEU (d := v) (k := (u : Int)) (m := (j : Int)) (u := u) (j := j) (ds := Q.map encD) (dss := [A.map encD, B.map encD, [some ((a : Int), (h : Int))].map encD]) ?_ rfl ?_ rfl (Ly (by show u < 3; omega)) gQ (Ly (by rw [List.length_map, lQ]; exact jl)))))))) (fin _ _))))))
    · show some (decide (wy > 4)) = _
      rw [decide_eq_true (by omega : wy > 4)]
    · unfold Bb vS
      rw [AEk, Be, Be, hu]
      rfl
    · unfold vS
      show Option.bind (Option.bind (some (PyData.list [.none, .tuple [.int 1, .int 2, .int 3], .list [.int 1, .int 2]])) fun x => Az x (.int (wy - 5))) _ = _
      rw [Be]
      have : Az (.list [.none, .tuple [.int 1, .int 2, .int 3], .list [.int 1, .int 2]]) (.int (wy - 5)) = some v := ev
      rw [this]
      rfl
    · have g1 : (Ar CG (Ab (Ae Az (Aa 3) (Aa 8)) Ag)) (full (R (Aq t w st) (.list [encL A, encL B, encL [some ((a : Int), (h : Int))]]) c wy a h Sz (.on [A.map encD, B.map encD, [some ((a : Int), (h : Int))].map encD]) (.sh (.int (u : Int))))) = some (.int ((2 ^ t * w : Nat) : Int)) := by
        show Option.bind (Option.bind (Az (.list ([A.map encD, B.map encD, [some ((a : Int), (h : Int))].map encD].map PyData.list)) (.int (u : Int))) fun x => some [x]) CG = _
        have : Az (.list ([A.map encD, B.map encD, [some ((a : Int), (h : Int))].map encD].map PyData.list)) (.int (u : Int)) = some (.list (Q.map encD)) := by
          show Cw _ _ = _
          refine g8 ?_
          rw [List.getElem?_map, gQ]
          rfl
        rw [this]
        show some (PyData.int ((Q.map encD).length : Int)) = _
        rw [List.length_map, lQ]
      show Option.bind (Option.bind (some (PyData.int c)) fun x => CJ x (.int 16)) (fun x => Option.bind ((Ar CG (Ab (Ae Az (Aa 3) (Aa 8)) Ag)) (full (R (Aq t w st) (.list [encL A, encL B, encL [some ((a : Int), (h : Int))]]) c wy a h Sz (.on [A.map encD, B.map encD, [some ((a : Int), (h : Int))].map encD]) (.sh (.int (u : Int)))))) fun y => Bl x y) = _
      rw [g1, Be]
      have hdv : CJ (.int c) (.int 16) = some (.int (c / 16)) := by clear e0 res fresh lf vw U7 fin g1 hj; walk_at "pu"
      rw [hdv, Be, Be, Xe, if_pos (by omega), hj]
  rcases two with e | e
  · have hs := place 0 A e (by decide) lA rfl
    obtain ⟨f1, f2⟩ := lE (n := 2 ^ t * w) (ts := A) (j := j) (o := v) (by omega) (by omega) hvp.1 hvp.2
    exact ⟨_, hs, Lf (Ph t4 f1 fB fS (.inl f2))⟩
  · have hs := place 1 B e (by decide) lB rfl
    obtain ⟨f1, f2⟩ := lE (n := 2 ^ t * w) (ts := B) (j := j) (o := v) (by omega) (by omega) hvp.1 hvp.2
    exact ⟨_, hs, Lf (Ph t4 fA f1 fS (.inr (.inl f2)))⟩
end S27
namespace S27
open PySem L2 LL S22
theorem ne_self {d : D} (h : SeqAt.shaped d = true) (e : PyData.eqv d d = true) : Cm d d = some (.bool false) := by
  unfold Cm
  rw [if_pos ⟨h, h⟩, e]
  rfl
theorem holds (ns : List Int) (hns : ns.length ≤ 63) : Rf [.list (ns.map PyData.int)] = some (.bool true) := by
  obtain ⟨c0, hc0⟩ := ACT ns (k := 0) (by decide)
  obtain ⟨t', w', st', hb, bd⟩ := AAl c0
  have hw1 := bd.w1
  have ht0 := bd.t0
  have hs1 := bd.s1
  obtain ⟨t, rfl⟩ : ∃ t : Nat, t' = (t : Int) := ⟨t'.toNat, by omega⟩
  obtain ⟨w, rfl⟩ : ∃ w : Nat, w' = (w : Int) := ⟨w'.toNat, by omega⟩
  obtain ⟨st, rfl⟩ : ∃ st : Nat, st' = (st : Int) := ⟨st'.toNat, by omega⟩
  have t4 : t ≤ 4 := by have := bd.t4; omega
  have w20 : w ≤ 20 := by have := bd.hi; omega
  have hN := J8 (k := t) (w := w) t4 (by omega) w20
  obtain ⟨cs, hcs, hcl⟩ := ACb ns (some 1) (some 11)
  have hq1 : 1 + cs.length < 16777216 := by omega
  obtain ⟨zs, hz, hzl, hz0⟩ := AJL (0 :: cs) (by simp; omega) (fi := Dw (BV (Gy (BV (CQ (Ab (Ad (.int 0)) Ag))) (BV (Fl (Aa 0) (GC (Ad (.int 1))) (GC (Ad (.int 11)))))))) (ρ := [some (.list (ns.map PyData.int)), some (Aq t w st), none, none, none, none, none, none, none, none, none]) (by clear hns hb; walk_at "pu")
  have loop := V8 (bs := Kf 2) (F := gA) PyData.int (fun (_ : Unit) ρ => ∃ s2 s3 s4 s5 s6 s7 s8 s9 s10, ρ = [.sh (.list (ns.map PyData.int)), .sh (Aq t w st), s2, s3, s4, s5, s6, s7, s8, s9, s10]) (fun _ _ => ()) zs ?_ ()
    [.sh (.list (ns.map PyData.int)), .sh (Aq t w st), .no, .no, .no, .no, .no, .no, .no, .no, .no] ⟨_, _, _, _, _, _, _, _, _, rfl⟩
  · obtain ⟨ρ', hf, s2, s3, s4, s5, s6, s7, s8, s9, s10, rfl⟩ := loop
    refine Cr (o := .rt (.bool true)) rfl ?_ rfl
    unfold YW
    have hb' : Qe [.int c0] = some (Aq t w st) := hb
    generalize Aq t w st = Bo at *
    generalize Ca (Dw (BV (Gy (BV (CQ (Ab (Ad (.int 0)) Ag))) (BV (Fl (Aa 0) (GC (Ad (.int 1))) (GC (Ad (.int 11)))))))) (Cg 0) Cq (Ar Jz (Ab (Aa 0) Ag)) 1 [] = PC at *
    refine BJ (ρ' := [.sh (.list (ns.map PyData.int)), .sh Bo, .no, .no, .no, .no, .no, .no, .no, .no, .no]) (by clear hf hz hb bd; walk_at "pu") ?_
    refine BJ ((SJ (items := zs.map PyData.int) (by clear hf hb bd; walk_at "pu")).trans hf) (by clear hf hz hb bd; walk_at "pu")
  · rintro _ ρ z hzm ⟨s2, s3, s4, s5, s6, s7, s8, s9, s10, rfl⟩
    clear hz hzl hz0 hzm hcs hcl hq1 hns hc0 hb
    have mt := Ej (z / 3) (b := (t : Int) + 1) (by omega)
    obtain ⟨h, hh⟩ := Int.eq_ofNat_of_zero_le mt.1
    have hht : h ≤ t := by omega
    have m3 := Ej (z / 15) (b := 3) (by decide)
    have m2 := Ej (z / 7) (b := 2) (by decide)
    have m45 := Ej (z / 45) (b := 2) (by decide)
    obtain ⟨a, ha⟩ := Int.eq_ofNat_of_zero_le m2.1
    have ha2 : a < 2 := by omega
    have hzh := J8 (k := h) (w := w) (by omega) (by omega) w20
    have hcap := yQ (t := t) (w := w) (st := st) (h := h) (by omega)
    rw [Vx] at hcap
    have hpc : (2 : Int) ^ h * ((w : Int) - (h : Int) * (st : Int)) = ((2 ^ h : Nat) : Int) * ((w : Int) - (h : Int) * (st : Int)) := by rw [Int.natCast_pow]; rfl
    obtain ⟨r2, rw', rh, rt⟩ := room bd hht
    have hc2 : 2 ≤ ((2 ^ h : Nat) : Int) * ((w : Int) - (h : Int) * (st : Int)) := by
      have p1 : 1 ≤ 2 ^ h := Nat.pow_pos (by decide)
      have a1 : (1 : Int) * 2 ≤ ((2 ^ h : Nat) : Int) * ((w : Int) - (h : Int) * (st : Int)) := Int.mul_le_mul (by omega) r2 (by decide) (by omega)
      omega
    have hpow : 2 ^ h * w ≤ 2 ^ t * w := Nat.mul_le_mul_right w (Nat.pow_le_pow_right (by decide) hht)
    have hgood : ∀ {k : Dk} {A B ts S : List Thing}, Dy k (2 ^ t * w) a h A B → CV w k a h = S → Ef ts → Qs ts S → ((keysOf ts).length : Int) ≤ 2 ^ h * ((w : Int) - (h : Int) * (st : Int)) → Ey [Aq t w st, Bh k] = some (.bool true) := fun d e r tw q => AJc (q := 0) bd d hht e r tw q
    rw [hpc] at hgood
    generalize hCC : ((2 ^ h : Nat) : Int) * ((w : Int) - (h : Int) * (st : Int)) = cap at *
    obtain ⟨ts, Wy, rts, lts, nts⟩ := nF (hh := h) z (cap - z / 15 % 3) bd (by omega)
    have hkn : ((keysOf ts).length : Int) ≤ cap := by omega
    have hth := qG ts (by omega) (fi := Dw (Aa 4)) (ρ := masked [.sh (.list (ns.map PyData.int)), .sh (Aq t w st), .sh (.int z), .sh (.int (h : Int)), .sh (encL ts), s5, s6, s7, s8, s9, s10]) rfl
    rw [Wm] at hth
    obtain ⟨S, hTw, hSs⟩ : ∃ S, Qs ts S ∧ Cd (BP (Ae Bx (Ae Bl (Ae CJ (Aa 2) (Ad (.int 45))) (Ad (.int 2))) (Ad (.int 1))))
        (Bb 4 (vS (BV (Bm Mz (Ab (Aa 4) (Ab (Ae CJ (Aa 2) (Ad (.int 90))) Ag)))))) DK [.sh (.list (ns.map PyData.int)), .sh (Aq t w st), .sh (.int z), .sh (.int (h : Int)), .sh (encL ts), .sh (.list ((things ts).map DN)), s6, s7, s8, s9, s10] = some (.nx [.sh (.list (ns.map PyData.int)), .sh (Aq t w st), .sh (.int z), .sh (.int (h : Int)), .sh (encL S), .sh (.list ((things ts).map DN)), s6, s7, s8, s9, s10]) := by
      by_cases e45 : z / 45 % 2 = 1
      · obtain ⟨S, hS, tw⟩ := ABJ (ts := ts) (by omega) (z / 90)
        refine ⟨S, tw, ?_⟩
        have eL : encL S = .list (S.map encD) := rfl
        rw [eL]
        generalize encL ts = LT at *
        generalize S.map encD = SD at *
        generalize Aq t w st = Bo at *
        generalize PyData.list (ns.map PyData.int) = Sc at *
        generalize PyData.list ((things ts).map DN) = TH at *
        clear hgood Wy hcap bd eL hth
        walk_at "pu"
      · refine ⟨ts, ⟨rfl, .inl rfl⟩, ?_⟩
        generalize encL ts = LT at *
        generalize Aq t w st = Bo at *
        generalize PyData.list (ns.map PyData.int) = Sc at *
        generalize PyData.list ((things ts).map DN) = TH at *
        clear hgood Wy hcap bd hth
        walk_at "pu"
    have lS : S.length = 2 ^ h * w := by rw [hTw.len, lts]
    obtain ⟨A, B, j7, lA, lB, htake⟩ := AKX (h := h) (a := a) z S bd ha2 (by omega)
    have dd : Dy [A, B, [some ((a : Int), (h : Int))]] (2 ^ t * w) a h A B := ⟨rfl, lA, lB, ha2⟩
    have Zz : CV w [A, B, [some ((a : Int), (h : Int))]] a h = S := by
      unfold CV
      rw [← lS]
      exact htake
    have vC := hgood dd Zz rts hTw hkn
    obtain ⟨ev, ov, hmk⟩ := zY bd dd hht vC
    obtain ⟨A', B', d', hup⟩ := pD dd hht
    have Mr := ACZ (st := st) (e := ev) (o := ov) d' hht t4 w20 (by omega)
    obtain ⟨rM, tM⟩ := yM rts hTw
    rw [hup, Zz, Ww rM, tM] at Mr
    obtain ⟨x, hx, hno⟩ := AL4 bd dd hht (z / 11)
    obtain ⟨o, ho, hob⟩ := AI6 bd (z / 13)
    have hby := pB bd
    have Ku : ∀ (x0 x1 x2 x3 x4 x5 x7 x8 x9 x10 : Option D), Ca (Dw (Aa 6)) (Cg 0) Cq (BV (Bm Fy (Ab (Aa 0) Ag))) 1 [] [x0, x1, x2, x3, x4, x5, some (.list [encL A, encL B, encL [some ((a : Int), (h : Int))]]), x7, x8, x9, x10] = some [encL A, encL B, encL [some ((a : Int), (h : Int))]] := fun _ _ _ _ _ _ _ _ _ _ => AHv dd rfl
    have hne : Cm (Bh [A, B, [some ((a : Int), (h : Int))]]) (Bh [A, B, [some ((a : Int), (h : Int))]]) = some (.bool false) := by
      have := AHM.Cm (by decide) [A, B, [some ((a : Int), (h : Int))]] [A, B, [some ((a : Int), (h : Int))]]
      rwa [decide_eq_true rfl] at this
    have QJ : Cm (.list ((things ts).map DN)) (.list ((things ts).map DN)) = some (.bool false) := by
      have := zF (things ts) (things ts)
      rwa [decide_eq_true rfl] at this
    have k1 : HN [o, Bh [A, B, [some ((a : Int), (h : Int))]]] = some (.list [.bool true, .bool false, .bool false, .bool true]) := kinds_of (Z5 (.inl hob)) (lM hob) rfl
    have k2 : HN [o, x] = some (.list [.bool true, .bool false, .bool false, .bool true]) := kinds_of (Z5 (.inl hob)) (lM hob) rfl
    have k3 : HN [Aq t w st, x] = some (.list [.bool false, .bool true, .bool false, .bool true]) := kinds_of (Z5 (.inr ⟨hby, hno⟩)) (ABR hby hno) rfl
    have k4 : HN [Aq t w st, Bh [A, B, [some ((a : Int), (h : Int))]]] = some (.list []) := ABX hmk
    have q1 : Cm (.list [.bool true, .bool false, .bool false, .bool true]) (.list [.bool true, .bool false, .bool false, .bool true]) = some (.bool false) := ne_self (by decide +kernel) (by decide +kernel)
    have q2 : Cm (.list [.bool false, .bool true, .bool false, .bool true]) (.list [.bool false, .bool true, .bool false, .bool true]) = some (.bool false) := ne_self (by decide +kernel) (by decide +kernel)
    have q3 : Cm (.list []) (.list []) = some (.bool false) := ne_self (by decide +kernel) (by decide +kernel)
    have hek : Bh [A, B, [some ((a : Int), (h : Int))]] = .list [encL A, encL B, encL [some ((a : Int), (h : Int))]] := rfl
    have eU : Mw [Aq t w st, .int (h : Int), .int (a : Int), encL S, .int z] = some [encL A, encL B, encL [some ((a : Int), (h : Int))]] := j7
    have gF : JK [Aq t w st, .int (h : Int), .int z, .int (cap - z / 15 % 3)] = some (ts.map encD) := Wy
    have X4 : Jc [Aq t w st, .int (h : Int)] = some (.int cap) := hcap
    have hB0 : Az (Aq t w st) (.int 0) = some (.int (t : Int)) := rfl
    have p1 : (0 : Int) < (t : Int) + 1 := by omega
    have p2 : (t : Int) + 1 < 1073741824 := by omega
    have hmod : Bl (.int (z / 3)) (.int ((t : Int) + 1)) = some (.int (h : Int)) := by rw [Xe, if_pos p1, hh]
    have omr : Hk "rows" (Mx (Aq t w st) (Bh (G7 w [A, B, [some ((a : Int), (h : Int))]] a h)) ev ov) = true := AI1
    generalize hKP : Mx (Aq t w st) (Bh (G7 w [A, B, [some ((a : Int), (h : Int))]] a h)) ev ov = KP at *
    rw [hek] at hmk hx hne k1 k4
    refine ⟨_, [.sh (.list (ns.map PyData.int)), .sh (Aq t w st), .sh (.int z), .sh (.int (h : Int)), .sh (encL S), .sh (.list ((things ts).map DN)), .sh (.list [encL A, encL B, encL [some ((a : Int), (h : Int))]]), .sh (.list [encL A, encL B, encL [some ((a : Int), (h : Int))]]), .sh KP, .sh x, .sh o], rfl, ?_, _, _, _, _, _, _, _, _, _, rfl⟩
    have eT : encL ts = .list (ts.map encD) := rfl
    clear hgood Wy hcap j7 hTw rts lts nts hkn lS lA lB htake dd Zz bd hek hCC vC hno hob hby rM tM hup d' hKP
    generalize encL [some ((a : Int), (h : Int))] = SG at *
    generalize encL A = LA at *
    generalize encL B = LB at *
    generalize encL S = LS at *
    generalize Aq t w st = Bo at *
    generalize (things ts).map DN = TH at *
    generalize PyData.list (ns.map PyData.int) = Sc at *
    unfold gA
    show Aw _ _ [.sh Sc, .sh Bo, .sh (.int z), s3, s4, s5, s6, s7, s8, s9, s10] = _
    refine BJ (ρ' := [.sh Sc, .sh Bo, .sh (.int z), .sh (.int (h : Int)), s4, s5, s6, s7, s8, s9, s10]) (by clear hmk Mr hx ho hne QJ k1 k2 k3 k4 q1 q2 q3 Ku eU gF X4 hSs hth hh ha eT omr; walk_at "pu") ?_
    refine BJ (ρ' := [.sh Sc, .sh Bo, .sh (.int z), .sh (.int (h : Int)), .sh (encL ts), s5, s6, s7, s8, s9, s10]) (by
      rw [eT]
      clear hmk Mr hx ho hne QJ k1 k2 k3 k4 q1 q2 q3 Ku eU hSs hth hh ha eT omr hmod
      generalize ts.map encD = TD at *
      walk_at "pu") ?_
    refine BJ (nP 5 hth) ?_
    refine BJ hSs ?_
    refine BJ (ρ' := [.sh Sc, .sh Bo, .sh (.int z), .sh (.int (h : Int)), .sh LS, .sh (.list TH), .sh (.list [LA, LB, SG]), s7, s8, s9, s10]) (by clear hmk Mr hx ho hne QJ k1 k2 k3 k4 q1 q2 q3 Ku gF X4 hSs hth hh eT omr hmod; walk_at "pu") ?_
    refine BJ (ρ' := [.sh Sc, .sh Bo, .sh (.int z), .sh (.int (h : Int)), .sh LS, .sh (.list TH), .sh (.list [LA, LB, SG]), .sh (.list [LA, LB, SG]), s8, s9, s10]) (nP 7 (Ku _ _ _ _ _ _ _ _ _ _)) ?_
    clear Ku eU gF X4 hSs hth hh ha eT hmod
    generalize PyData.list [LA, LB, SG] = E at *
    refine BJ (ρ' := [.sh Sc, .sh Bo, .sh (.int z), .sh (.int (h : Int)), .sh LS, .sh (.list TH), .sh E, .sh E, .sh KP, s9, s10]) (by
      show Option.bind (Option.bind (Hi Fz [Bo, E]) _) _ = _
      rw [hmk]
      rfl) ?_
    refine BJ (ρ' := [.sh Sc, .sh Bo, .sh (.int z), .sh (.int (h : Int)), .sh LS, .sh (.list TH), .sh E, .sh E, .sh KP, s9, s10]) (by clear hmk hx ho k1 k2 k3 k4 q1 q2 q3; walk_at "pu") ?_
    refine BJ (ρ' := [.sh Sc, .sh Bo, .sh (.int z), .sh (.int (h : Int)), .sh LS, .sh (.list TH), .sh E, .sh E, .sh KP, .sh x, s10]) (by clear hmk Mr ho hne QJ k1 k2 k3 k4 q1 q2 q3 omr; walk_at "pu") ?_
    refine BJ (ρ' := [.sh Sc, .sh Bo, .sh (.int z), .sh (.int (h : Int)), .sh LS, .sh (.list TH), .sh E, .sh E, .sh KP, .sh x, .sh o]) (by clear hmk Mr hx hne QJ k1 k2 k3 k4 q1 q2 q3 omr; walk_at "pu") ?_
    refine BJ (ρ' := [.sh Sc, .sh Bo, .sh (.int z), .sh (.int (h : Int)), .sh LS, .sh (.list TH), .sh E, .sh E, .sh KP, .sh x, .sh o]) (by clear hmk Mr hx ho hne QJ k3 k4 q2 q3 omr; walk_at "pu") ?_
    clear hmk Mr hx ho hne QJ k1 k2 q1 omr
    walk_at "pu"
end S27
open PySem PySem.W PyProof.Rows
theorem PySem.W.Fast.tw17481234075758208459 : True := trivial
theorem PySem.W.Fast.tw15987342343212548668 : True := trivial
theorem PySem.W.Fast.tw443309754385545949 : True := trivial
theorem PySem.W.Fast.tw5224591365079469449 : True := trivial
theorem PySem.W.Fast.tw11767356057073832672 : True := trivial
theorem PySem.W.Fast.tw1569811650255559852 : True := trivial
theorem PySem.W.Fast.tw5159690547512809380 : True := trivial
theorem PySem.W.Fast.tw5980804024158024687 : True := trivial
theorem PySem.W.Fast.tw1564698664812679935 : True := trivial
theorem PySem.W.Fast.tw16369514484572152706 : True := trivial
theorem PySem.W.Fast.tw9980952062936320125 : True := trivial
theorem PySem.W.Fast.tw476871218377414106 : True := trivial
theorem PySem.W.Fast.tw5117003176998969411 : True := trivial
set_option maxRecDepth 100000 in
set_option maxHeartbeats 0 in
theorem PySem.Challenge.cw_gapshelf_k27_no_bounds_no_disk_holds : PySem.Challenge.rw_gapshelf_k27_no_bounds_no_disk.Holds := by
  w_on; o_law; k_head; (case hw => w_witness2)
  k_fill
  refine L2.AJf (l := PySem.Challenge.rw_gapshelf_k27_no_bounds_no_disk) (n := 63) (k := 10) (x := "script") (CX := L2.Gk) (sp := L2.Xv) rfl (by decide) rfl ⟨rfl, by decide, by decide⟩ (fun w h Y => PySem.W.kIn_of Y) ?F ?S ?C
  case S => exact fun K H a ns hl hO hS => ⟨a, ns, rfl, hS, hl, fun _ => rfl⟩
  case C => exact fun _ _ _ _ z => z
  case F =>
    intro w mg fa h KX G hmg
    refine' S27.all_mk S27.holds KX G hmg ?o0 ?o1 ?o2 ?o3 ?o4 ?o5 ?o6 ?o7 ?o8 ?o9 ?oa ?ib ?ii ?is ?il ?it ?Jj ?U8 ?S9 ?Ub ?Lw ?VP ?Td ?a0 ?l0 ?c0 ?k0 ?a1 ?l1 ?c1 ?k1 ?a2 ?l2 ?c2 ?k2 ?a3 ?l3 ?c3 ?k3 ?a4 ?l4 ?c4 ?k4 ?a5 ?l5 ?c5 ?k5 ?a6 ?l6 ?c6 ?k6 ?a7 ?l7 ?c7 ?k7 ?a8 ?l8 ?c8 ?k8 ?a9 ?l9 ?c9 ?k9 ?a10 ?l10 ?c10 ?k10 ?a11 ?l11 ?c11 ?k11 ?a12 ?l12 ?c12 ?k12 ?a13 ?l13 ?c13 ?k13 ?a14 ?l14 ?c14 ?k14 ?a15 ?l15 ?c15 ?k15 ?a16 ?l16 ?c16 ?k16 ?a17 ?l17 ?c17 ?k17 ?a18 ?l18 ?c18 ?k18 ?a19 ?l19 ?c19 ?k19 ?a20 ?l20 ?c20 ?k20 ?a21 ?l21 ?c21 ?k21 ?a22 ?l22 ?c22 ?k22 ?a23 ?l23 ?c23 ?k23 ?a24 ?l24 ?c24 ?k24 ?a25 ?l25 ?c25 ?k25 ?a26 ?l26 ?c26 ?k26 ?a27 ?l27 ?c27 ?k27 ?a28 ?l28 ?c28 ?k28 ?a29 ?l29 ?c29 ?k29 ?a30 ?Z7 ?l30 ?c30 ?k30 ?a31 ?Ys ?l31 ?c31 ?k31 ?a32 ?Zx ?l32 ?c32 ?k32 ?a33 ?aR ?l33 ?c33 ?k33 ?a34 ?cR ?l34 ?c34 ?k34 ?a35 ?Z9 ?l35 ?c35 ?k35 ?a36 ?l36 ?c36 ?k36 ?a37 ?l37 ?c37 ?k37 ?a38 ?l38 ?c38 ?k38 ?a39 ?l39 ?c39 ?k39 ?a40 ?l40 ?c40 ?k40 ?a41 ?l41 ?c41 ?k41 ?a42 ?l42 ?c42 ?k42 ?a43 ?l43 ?c43 ?k43 ?a44 ?l44 ?c44 ?k44 ?a45 ?l45 ?c45 ?k45 ?a46 ?l46 ?c46 ?k46 ?a47 ?l47 ?c47 ?k47 ?a48 ?l48 ?c48 ?k48 ?a49 ?l49 ?c49 ?k49 ?Zu ?aG ?dU ?ZZ ?Zj ?b8 ?Z8 ?gU ?gD ?aA ?d7 ?Y9 ?Zr ?Yu ?aN ?Yn ?q0 ?q1 ?q2 ?t1 ?t2 ?t3 ?t4 ?x0 ?x1 ?x2 ?ga1 ?gt1 ?cl1 ?mB1 ?mO1 ?s1 ?ga2 ?gt2 ?cl2 ?mB2 ?mO2 ?s2 ?i1 ?i2 ?i3 ?i4 ?j1 ?j2 ?j3 ?j4
    case o0 | o1 | o2 | o3 | o4 | o5 | o6 | o7 | o8 | o9 | oa => k_is
    case ib | ii | is | il | it => kit_is
    case Jj | U8 | S9 | Ub | Lw | VP | Td | a0 | l0 | c0 | k0 | a1 | l1 | c1 | k1 | a2 | l2 | c2 | k2 | a3 | l3 | c3 | k3 | a4 | l4 | c4 | k4 | a5 | l5 | c5 | k5 | a6 | l6 | c6 | k6 | a7 | l7 | c7 | k7 | a8 | l8 | c8 | k8 | a9 | l9 | c9 | k9 | a10 | l10 | c10 | k10 | a11 | l11 | c11 | k11 | a12 | l12 | c12 | k12 | a13 | l13 | c13 | k13 | a14 | l14 | c14 | k14 | a15 | l15 | c15 | k15 | a16 | l16 | c16 | k16 | a17 | l17 | c17 | k17 | a18 | l18 | c18 | k18 | a19 | l19 | c19 | k19 | a20 | l20 | c20 | k20 | a21 | l21 | c21 | k21 | a22 | l22 | c22 | k22 | a23 | l23 | c23 | k23 | a24 | l24 | c24 | k24 | a25 | l25 | c25 | k25 | a26 | l26 | c26 | k26 | a27 | l27 | c27 | k27 | a28 | l28 | c28 | k28 | a29 | l29 | c29 | k29 | a30 | Z7 | l30 | c30 | k30 | a31 | Ys | l31 | c31 | k31 | a32 | Zx | l32 | c32 | k32 | a33 | aR | l33 | c33 | k33 | a34 | cR | l34 | c34 | k34 | a35 | Z9 | l35 | c35 | k35 | a36 | l36 | c36 | k36 | a37 | l37 | c37 | k37 | a38 | l38 | c38 | k38 | a39 | l39 | c39 | k39 | a40 | l40 | c40 | k40 | a41 | l41 | c41 | k41 | a42 | l42 | c42 | k42 | a43 | l43 | c43 | k43 | a44 | l44 | c44 | k44 | a45 | l45 | c45 | k45 | a46 | l46 | c46 | k46 | a47 | l47 | c47 | k47 | a48 | l48 | c48 | k48 | a49 | l49 | c49 | k49 | Zu | aG | dU | ZZ | Zj | b8 | Z8 | gU | gD | aA | d7 | Y9 | Zr | Yu | aN | Yn | q0 | q1 | q2 | t1 | t2 | t3 | t4 => k_is
    case x0 | x1 | x2 => k_exc
    case ga1 | gt1 | cl1 | mB1 | mO1 | s1 | ga2 | gt2 | cl2 | mB2 | mO2 | s2 => k_is
    case i1 | i2 | i3 | i4 | j1 | j2 | j3 | j4 => kit_is
#print axioms PySem.Challenge.cw_gapshelf_k27_no_bounds_no_disk_holds
